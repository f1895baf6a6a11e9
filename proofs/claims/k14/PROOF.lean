import PyProof.Rows.All
import Wide.All
import OpenK.AllK
import Wide.FinOn
import PyProof.StrReplace2
import KE.GoesEnum
import HandS.ForMost
import HandS.IsInst
import HandS.StrMore
import HandS.Star
import HandS.Defaults
import HandS.MakeKw
import HandS.MakeKwOnly
import HandS.Wide
import HandS.Walk
import HandS.SetTxt0
import HandS.ReplaceList
import HandS.Flow
import HandS.Codes
import HandS.SlotsOwn
import HandS.TryOnly
import HandS.ExcOwn
import HandS.WordsExc
import PyProof.ListStr
import HandS.ExcIs
import HandS.ReplaceLit
import HandS.ReplaceDef
import HandS.RaiseMore
import HandS.TupAny
import HandS.SetKeys
import PyProof.NeKinds
import PyProof.InstNe
import HandS.ExcValue
import HandS.ExcInit
import HandS.ClsMeth
import HandS.Strs
import PyProof.StrWalks
import HandS.ExcField
import KE.KExcIs
import HandS.Text
import HandS.Zip
import KE.KEqNest
import KE.DataCmp
import HandS.TryMany
import HandS.SuiteRaise
import HandS.RaiseFrom
import KE.KTryMore
import HandS.Rev
import PyProof.ListNew
import PySem.Challenge.RW_plaindoors_k14_whole_there_and_back
set_option Elab.async false
set_option linter.all false
set_option maxRecDepth 100000
namespace Pd
open PySem PySem.Spec PyProof.Rows L2
/-! powers of great ints, repeated texts -/
def CPowW (i j : Int) : Prop := 0 ≤ j ∧ (Builtin.Int.intBits i : Int) * j ≤ 2 ^ 27
section
variable {X : Cx}
theorem op_powW : OpR X (binaryOp .Pow) (rI CPowW fun i j => .int (i ^ j.toNat)) :=
  opI fun _ _ _ _ _ _ _ hc q => pow_int hc.1 hc.2 q
theorem op_mulS : OpR X (binaryOp .Mult) (fun x y H Q => ∃ a n, x = .str a ∧ y = .int n ∧ PySem.MulOk a n ∧ Q (.str (Txt.mul a n)) H) := by
  intro pins s σ H x y v u Q I rx ry h
  obtain ⟨a, n, rfl, rfl, ok, q⟩ := h
  obtain ⟨t, rfl⟩ := rx
  obtain ⟨t', rfl⟩ := ry
  exact PySem.SB.mul ok fun t2 k => ⟨.str _, H, I.tok k, ⟨t2, rfl⟩, q⟩
end
theorem bits_lt {i : Int} {a : Nat} (h : i.natAbs < 2 ^ a) (h0 : 0 < a) : Builtin.Int.intBits i ≤ a := by
  have x := PySem.Flt.log2_lt_of h0 h
  unfold Builtin.Int.intBits
  split <;> omega
theorem powW_ok {i j : Int} {a : Nat} (h : i.natAbs < 2 ^ a) (h0 : 0 < a) (hj : 0 ≤ j) (hj2 : j ≤ 16) (ha : a ≤ 100000) : CPowW i j := by
  refine ⟨hj, ?_⟩
  have e := bits_lt h h0
  have e2 : (Builtin.Int.intBits i : Int) ≤ 100000 := by omega
  have e3 : (0:Int) ≤ (Builtin.Int.intBits i : Int) := by omega
  have : (Builtin.Int.intBits i : Int) * j ≤ 100000 * 16 := Int.mul_le_mul e2 hj2 hj (by omega)
  omega
end Pd

namespace Pd
open PySem PySem.Spec PyProof.Rows L2
/-! ### a set made of a text whose signs are all plain and distinct -/
abbrev freshSet (led : Bool) : Obj := { cls := .type "set", dict := none, data := .set #[] 0 (.fresh 0 0 led) }
theorem sub_ss : isSubtype (.type "str") (.type "set") = pure false := by rw [isSubtype_type]; kernel_rfl
theorem sub_sf : isSubtype (.type "str") (.type "frozenset") = pure false := by rw [isSubtype_type]; kernel_rfl
theorem run_txok {P : Program} {w : World} : ∀ (cs : List Nat) (tk : Tok) (D : Froz.SD) (l : List Str), Froz.TxOk P w D l →
    ∃ m, m.length = cs.length + l.length ∧ Froz.TxOk P w (Froz.runD w cs tk D) m
  | [], _, _, l, F => ⟨l, (Nat.zero_add _).symm, F⟩
  | c :: r, tk, D, l, F => by
    obtain ⟨m, hm, G⟩ := run_txok r (tk + 2) _ _ (Froz.add_ok (k := Froz.sing c) tk F)
    exact ⟨m, by rw [hm, List.length_cons, List.length_cons]; omega, G⟩
section
variable {prog : Program} {w : World} {A : Around} {E : Value → Shared → Prop} {s : Shared}
/-- what such a set is, as far as its length goes -/
def TxtSet (h : Heap) (a : Addr) (n : Nat) : Prop :=
  ∃ D : Froz.SD, h.get? a = some (Froz.sObj "set" D) ∧ D.2.2.fits D.1.size = true ∧ D.1.size = n
set_option maxHeartbeats 6400000 in
theorem set_of_text {x : Str} {t : Tok} {Q : Value → Shared → Prop} (hh : A.handled = none) (ha : x.cps.all (· < 128) = true)
    (hd : x.cps.toList.Nodup) (hb : x.cps.toList.length < scanBound)
    (hq : ∀ (g : Heap) (tk : Nat), TxtSet g s.heap.objs.size x.cps.toList.length →
      (∀ b o, s.heap.get? b = some o → g.get? b = some o) → Q (.ref s.heap.objs.size) { s with heap := g, toks := tk }) :
    wpAny (model prog w) A (call (.type "set") [.str x t]) Q E s := by
  obtain ⟨c, tl, hmro⟩ := PySem.F.called_set.mro
  have made := PySem.F.called_set.made
  have subs := PySem.F.called_set.sub
  refine wpAny_call (codeAny_of_tree ?_)
  show wpAny _ _ (callAny (.type "set") _) _ _ _
  refine wpAny_pure ⟨Code.quiet_builtin _ (by decide +kernel), codeAny_builtin PySem.F.entry_type_call ?_⟩
  rw [Around.under_plain (weight_type_call_type "set" [.str x t] []) rfl]
  have nt := PySem.F.called_set.notType
  have cc := PySem.F.called_set.canCreate
  have tc := PySem.F.typeCall_set_1 (.str x t)
  repeat (any_goals (first | assumption | wp_step))
  refine codeAny_mono (code_set_new_1 (.str x t) (E := E) (Q₁ := fun ob s1 => ∃ led, ob = .ref s.heap.objs.size ∧ s1 = { s with heap := s.heap.push (freshSet led) }) fun led => ⟨led, rfl, rfl⟩) fun r s1 hr => ?_
  cases r with
  | error e => exact hr
  | ok fl =>
    cases fl with
    | next => exact hr.elim
    | brk => exact hr.elim
    | cont => exact hr.elim
    | ret ob =>
      obtain ⟨led, rfl, rfl⟩ := hr
      have gS : (s.heap.push (freshSet led)).get? s.heap.objs.size = some (freshSet led) := Heap.get?_push_size _ rfl
      have tS : Shared.TypeIs { s with heap := s.heap.push (freshSet led) } (.ref s.heap.objs.size) "set" := ⟨_, gS, rfl⟩
      have li := PySem.F.called_set.init.lookup
      have bi := PySem.F.called_set.init.bind (.ref s.heap.objs.size)
      repeat (any_goals (first | assumption | wp_step))
      refine codeAny_mono (codeAny_call_builtin (R := wants (fun r s2 => r = .none ∧ ∃ g tk, s2 = { s with heap := g, toks := tk } ∧
          TxtSet g s.heap.objs.size x.cps.toList.length ∧ (∀ b o, s.heap.get? b = some o → g.get? b = some o)) E)
          PySem.F.called_set.init.plain PySem.F.entry_set_init (check_set_init_1 tS ?_)) fun r2 s2 h2 => ?_
      · have s1 := sub_ss
        have s3 := sub_sf
        have tT : Shared.TypeIs { s with heap := s.heap.push (freshSet led) } (.str x t) "str" := typeIs_str _ _ _
        have ne : (Value.type "str" == Value.type "dict") = false := by decide
        unfold Builtin.«set.__init__» noKeywords Builtin.Frozenset.updateFrom
        generalize hPI : pyIter = PI
        wp_walk
        subst hPI
        refine wpAny_pyIter_ascii ha ?_
        refine wpAny_bind (wpAny_runValue ?_)
        have e1 : (s.heap.push (freshSet led)).objs.size = s.heap.objs.size + 1 := Heap.size_push _ _
        have hne : s.heap.objs.size ≠ (s.heap.push (freshSet led)).objs.size := by omega
        have g1 : ∀ o2, ((s.heap.push (freshSet led)).push o2).get? s.heap.objs.size = some (Froz.sObj "set" (#[], 0, .fresh 0 0 led)) := fun o2 => Heap.get?_push_of_some _ gS
        have g2 : ((s.heap.push (freshSet led)).push (Froz.itObj x t 0)).get? (s.heap.push (freshSet led)).objs.size = some (Froz.itObj x t 0) := Heap.get?_push_size _ rfl
        obtain ⟨m, hm, TX⟩ := run_txok (P := prog) (w := w) x.cps.toList s.toks _ _ (Froz.TxOk.nil (ep := 0) (t := .fresh 0 0 led) rfl)
        refine Froz.code_update (P := prog) (w := w) (l := []) (D := (#[], 0, .fresh 0 0 led)) hne (by exact hh) x.cps.toList 0 _ rfl (g1 _) g2 (Froz.TxOk.nil rfl) (fun _ _ => List.not_mem_nil) hd (by simpa using hb) ?_
        refine wpAny_pure (wpAny_pure ⟨rfl, _, _, rfl, ⟨Froz.runD w x.cps.toList s.toks (#[], 0, .fresh 0 0 led), ?_, TX.fit, ?_⟩, fun b o q => ?_⟩)
        · refine Heap.get?_push_of_some _ (Heap.get?_push_of_some _ ?_)
          unfold Froz.two
          exact PySem.Heap.get?_update_of_ne _ hne.symm (Froz.get_upd _ (g1 _) rfl)
        · rw [TX.sz, hm]; rfl
        · have hb1 : b < s.heap.objs.size := Heap.lt_size q
          have b2 : (s.heap.push (freshSet led)).objs.size ≠ b := by rw [e1]; exact Nat.ne_of_gt (Nat.lt_succ_of_lt hb1)
          have b3 : s.heap.objs.size ≠ b := Nat.ne_of_gt hb1
          refine Heap.get?_push_of_some _ (Heap.get?_push_of_some _ ?_)
          unfold Froz.two
          exact PySem.Heap.get?_update_of_ne _ b2 (PySem.Heap.get?_update_of_ne _ b3 (Heap.get?_push_of_some _ (Heap.get?_push_of_some _ q)))
      · cases r2 with
        | error e => exact h2
        | ok f2 =>
          cases f2 with
          | next => exact h2.elim
          | brk => exact h2.elim
          | cont => exact h2.elim
          | ret r =>
            obtain ⟨rfl, g, tk, rfl, hS, hk⟩ := h2
            repeat (any_goals (first | assumption | wp_step))
            exact hq _ _ hS hk
end
/-- len(set(e)), e a text of plain and distinct signs -/
def tLenSetS (ta : TE) : TE := fun σ H Q => ta σ H fun v H1 => ∃ x : Str, v = .str x ∧ x.cps.all (· < 128) = true ∧ x.cps.toList.Nodup ∧ x.cps.toList.length ≤ 1000 ∧ Q (.int (x.cps.toList.length : Nat)) H1
theorem pe_lenSetS {X : Cx} {a : Expr} {ta : TE} {p p2 q pos : Pos} (hc : X.calm = true) (hg : Gl X "len") (hm : X.mg "len" = none) (hg2 : Gl X "set") (hm2 : X.mg "set" = none) (ha : PE X a ta)
    (na : starEach [a] X.env = (false, eval a X.env) :: starEach [] X.env := by rfl) : PE X (.Call (.Name "len" p) [.Call (.Name "set" p2) [a] [] q] [] pos) (tLenSetS ta) := by
  constructor
  intro pins s σ H Q I h
  apply Call_ (ld_blt I hg hm boot_len _)
  refine PyProof.Rows.callWith_builtin1 (PyProof.Rows.args_cons (Call_ (ld_blt I hg2 hm2 boot_set ?_)) rfl) rfl rfl
  refine PyProof.Rows.callWith_type1 (PyProof.Rows.args_cons (thn (ha.run pins s σ H _ I h) ?_) na) na rfl
  rintro v s1 ⟨y, H1, I1, r1, x, rfl, hx, hn, hl, q1⟩
  obtain ⟨t, rfl⟩ := r1
  refine PyProof.Rows.args_nil (set_of_text (I1.ok.hd hc) hx hn (Nat.lt_of_le_of_lt hl (by unfold scanBound; omega)) fun g tk hS hk => PyProof.Rows.args_nil ?_)
  obtain ⟨D, h1, h2, h3⟩ := hS
  have I2 : Inv X pins σ H1 { s1 with heap := g, toks := tk } := I1.kept hk
  exact call_len_set h1 ⟨rfl, rfl, rfl⟩ rfl h2 (by omega) ⟨.int _, H1, I2.tok _, ⟨_, by rw [h3]⟩, q1⟩
end Pd

namespace Pd
open PySem PySem.Spec PyProof.Rows L2
/-! ### no reader has booked a token -/
theorem unbooked {X : Cx} {pins : List (Addr × Obj)} {σ : L2.St} {H : Hp} {s : Shared} (b : NoneBooked X.base) (I : Inv X pins σ H s) : NoneBooked s.heap :=
  let ⟨mc, h1, h2⟩ := b
  ⟨mc, h1.keeps I.bk, h2⟩
theorem tkE {α : Type} {M : Model} {A : Around} {t : Sem α} {Q : α → Shared → Prop} {E : Value → Shared → Prop} {s : Shared} {n : Nat} (hn : n ≤ s.toks) (h : wpAny M A t Q E s) :
    wpAny M A t (fun a s' => n ≤ s'.toks ∧ Q a s') E s := wpAny_mono (PySem.wpAny_toks_of hn h) (fun _ _ q => q) fun _ _ q => q.2
/-! ### texts whose token is new -/
def Frsh (n m : Nat) (u : Value) : Prop := ∃ x t, u = .str x t ∧ n ≤ t ∧ t < m
structure PEF (X : Cx) (e : Expr) (t : TE) : Prop where
  run : ∀ (pins : List (Addr × Obj)) (s : Shared) (σ : L2.St) (H : Hp) (Q : VK), Inv X pins σ H s → t σ H Q →
    wpAny (model X.prog X.w) X.A (eval e X.env) (fun u s' => EP X pins σ Q u s' ∧ s.toks ≤ s'.toks ∧ Frsh (s.toks + 1) s'.toks u) X.xe s
theorem PEF.pe {X : Cx} {e : Expr} {t : TE} (h : PEF X e t) : PE X e t := ⟨fun pins s σ H Q I q => thn (h.run pins s σ H Q I q) fun _ _ z => z.1⟩
/-- a written text at a reckoned place -/
def tItemC (z : Str) (tb : TE) : TE := fun σ H Q => tb σ H fun y H2 => ∃ (i : Int) (c : Nat), y = .int i ∧ 0 ≤ i ∧ i < z.length ∧ z.length ≤ 1000 ∧ z.cps[i.toNat]? = some c ∧ Q (.str ⟨#[c]⟩) H2
theorem pef_item {X : Cx} {z : Str} {j : Nat} {cp pos : Pos} {b : Expr} {tb : TE} (hb : PE X b tb) (hs : PlainIxT b) : PEF X (.Subscript (.Constant (.str z) j cp) b pos) (tItemC z tb) := by
  constructor
  intro pins s σ H Q I h
  refine Subscript_ (Calls.Constant_str ?_)
  have I1 : Inv X pins σ H { s with toks := s.toks + 1 } := I.tok _
  refine thn (tkE (n := s.toks + 1) (Nat.le_refl _) (hb.run pins _ σ H _ I1 h)) ?_
  rintro u s2 ⟨ht, y, H2, I2, ry, i, c, rfl, h0, h1, hz, hc, q⟩
  obtain ⟨t, rfl⟩ := ry
  have e : seqIndex? i z.length = some i.toNat := PySem.StrLaws.seqIndex_nonneg h0 h1
  refine tail_any (typeIs_str s2 z s.toks) slot_str_getitem.lookup (getItem_str (c := c) ?_ (by rw [e]; exact hc) ⟨⟨.str ⟨#[c]⟩, H2, I2.tok _, ⟨_, rfl⟩, q⟩, ?_, _, _, rfl, ht, ?_⟩) (hs _ _)
  · rw [decide_eq_false (by omega), decide_eq_false (by omega)]; rfl
  · show s.toks ≤ s2.toks + 1; omega
  · show s2.toks < s2.toks + 1; omega
/-- a name of the frame, its value raw -/
structure Holds (X : Cx) (s : Shared) (x : Str) (u : Value) : Prop where
  kd : X.env.kindOf x = some .local
  at_ : ∃ m, s.heap.Ns X.env.locals m ∧ m x = some u
theorem Holds.tok {X : Cx} {s : Shared} {x : Str} {u : Value} (h : Holds X s x u) (k : Nat) : Holds X { s with toks := k } x u := ⟨h.kd, h.at_⟩
theorem Holds.load {X : Cx} {pins : List (Addr × Obj)} {σ : L2.St} {H : Hp} {s : Shared} {x : Str} {u : Value} {pos : Pos} {Q E : Value → Shared → Prop} (h : Holds X s x u) (I : Inv X pins σ H s) (q : Q u s)
    (hd : (x == ("__debug__" : Str)) = false := by decide) : wpAny (model X.prog X.w) X.A (eval (.Name x pos) X.env) Q E s := by
  obtain ⟨m, hn, hm⟩ := h.at_
  exact wpAny_Name (wpAny_loadName_local I.ok.kind h.kd hn hm q) hd
/-- a local name is stored, and its value is known -/
theorem store_raw {X : Cx} {pins : List (Addr × Obj)} {σ : L2.St} {H : Hp} {s : Shared} {M : Model} {A : Around} {E : Value → Shared → Prop} {i : Nat} {x : Str} {v : V} {u : Value} {Q : Unit → Shared → Prop}
    (I : Inv X pins σ H s) (hN : X.N.Nodup) (hi : X.N[i]? = some x) (hx : X.env.scope.names.lookup x = some .local) (r : RelV v u)
    (h : ∀ s', Inv X pins (σ.set i (some v)) H s' → Holds X s' x u → (∀ y w, y ≠ x → Holds X s y w → Holds X s' y w) → s.toks ≤ s'.toks → Q () s') : wpAny M A (storeName X.env x u) Q E s := by
  obtain ⟨m, hn, hl⟩ := id I.loc
  have hcls : (X.env.scope.kind == .class || (X.env.scope.kind == .module && X.env.locals != X.env.globals)) = false := by rw [I.ok.kind]; rfl
  have hk : X.env.kindOf x = some .local := hx
  obtain ⟨oL, _, _, hoL, _⟩ := id hn
  have hiσ : i < σ.length := by rw [I.len]; exact (List.getElem?_eq_some_iff.mp hi).1
  refine wpAny_storeName_local hk hn (fun g hg sb => ?_) hcls
  have oldL : ∀ {b o}, X.s_0.heap.get? b = some o → b ≠ X.env.locals := fun e => Nat.ne_of_lt (Nat.lt_of_lt_of_le (Heap.lt_size e) I.ok.above)
  have hok : HOk X.prog X.w H g := fun b ob e => by
    refine (I.hok b ob e).stay (fun c w' hc q => (sb.2 c ?_).trans q) (fun _ q => q) fun _ _ q => q
    rintro rfl
    rcases hc with rfl | hc
    · rw [I.free] at e; cases e
    · rw [I.free] at hc; cases hc
  have I' : Inv X pins (σ.set i (some v)) H { s with heap := g, toks := s.toks + 1 } := by
    refine ⟨I.ok, I.os, I.bare, ⟨?_, ?_, I.base.free, ?_, I.base.tups, I.base.frzs, I.base.tbls⟩, ⟨_, hg, ?_⟩, ?_, I.free, I.freeC, ?_, hok, by simpa using I.len⟩
    · intro b o e n hb hx'
      exact (sb.2 b (oldL e)).trans (I.base.keep b o e n hb hx')
    · intro b o e n hb hx'
      obtain ⟨sl, e1⟩ := I.base.slot b o e n hb hx'
      exact ⟨sl, (sb.2 b (oldL e)).trans e1⟩
    · intro b o e hx'
      obtain ⟨o', e1⟩ := I.base.there b o e hx'
      exact ⟨o', (sb.2 b (oldL e)).trans e1⟩
    · intro j y v' e1 e2 e3
      by_cases hj : j = i
      · subst hj
        rw [hi] at e1; cases e1
        rw [List.getElem?_set_self hiσ] at e2
        cases e2
        exact ⟨u, r, .inl ⟨hk, by simp⟩⟩
      · rw [List.getElem?_set_ne (Ne.symm hj)] at e2
        obtain ⟨u', r', q⟩ := hl j y v' e1 e2 e3
        refine ⟨u', r', ?_⟩
        rcases q with ⟨k, e⟩ | ⟨k, c, e, z⟩
        · refine .inl ⟨k, ?_⟩
          have nyx : y ≠ x := fun e' => hj (nodup_ix hN e1 (e' ▸ hi))
          simp [nyx, e]
        · exact .inr ⟨k, c, e, z.sameBut sb (I.cne y c e)⟩
    · intro y c e
      obtain ⟨w', z⟩ := I.cell y c e
      exact ⟨w', z.sameBut sb (I.cne y c e)⟩
    · intro p hp
      obtain ⟨e, n, ne, nf, d⟩ := I.pin p hp
      exact ⟨(sb.2 p.1 ne).trans e, n, ne, nf, d⟩
  refine h _ I' ⟨hk, _, hg, by simp⟩ (fun y w ny hy => ?_) (Nat.le_succ _)
  obtain ⟨m', hn', hm'⟩ := hy.at_
  obtain ⟨od, es, ep, h1, h2, h3, h4⟩ := id hn
  obtain ⟨od', es', ep', h1', h2', h3', h4'⟩ := id hn'
  rw [h1] at h1'; cases h1'
  rw [h2] at h2'; cases h2'
  refine ⟨hy.kd, _, hg, ?_⟩
  have : m y = some w := by rw [← hm', ← h4 y, ← h4' y]
  simp [ny, this]
/-! ### lists of texts of unlike tokens -/
/-- the texts cs, their tokens all in n .. m and unlike -/
inductive TkL : Nat → Nat → List Str → List Value → Prop where
  | nil {n m : Nat} (h : n ≤ m) : TkL n m [] []
  | cons {n k m : Nat} {c : Str} {t : Nat} {cs : List Str} {us : List Value} (h1 : n ≤ t) (h2 : t < k) (r : TkL k m cs us) : TkL n m (c :: cs) (.str c t :: us)
theorem TkL.le : ∀ {n m : Nat} {cs : List Str} {us : List Value}, TkL n m cs us → n ≤ m
  | _, _, _, _, .nil h => h
  | _, _, _, _, .cons h1 h2 r => Nat.le_trans (Nat.le_of_lt (Nat.lt_of_le_of_lt h1 h2)) r.le
theorem TkL.low {n n' m : Nat} {cs : List Str} {us : List Value} (h : TkL n m cs us) (l : n' ≤ n) : TkL n' m cs us := by
  cases h with
  | nil h => exact .nil (Nat.le_trans l h)
  | cons h1 h2 r => exact .cons (Nat.le_trans l h1) h2 r
theorem TkL.app : ∀ {n m p : Nat} {cs ds : List Str} {us vs : List Value}, TkL n m cs us → TkL m p ds vs → TkL n p (cs ++ ds) (us ++ vs)
  | _, _, _, _, _, _, _, .nil h, r => r.low h
  | _, _, _, _, _, _, _, .cons h1 h2 q, r => .cons h1 h2 (q.app r)
theorem TkL.vals : ∀ {n m : Nat} {cs : List Str} {us : List Value}, TkL n m cs us → Vals (cs.map V.str) us
  | _, _, _, _, .nil _ => .nil
  | _, _, _, _, .cons _ _ r => .cons ⟨_, rfl⟩ r.vals
/-- what stands at a place -/
theorem TkL.get : ∀ {n m : Nat} {cs : List Str} {us : List Value} {i : Nat} {c : Str}, TkL n m cs us → cs[i]? = some c → ∃ t, us[i]? = some (.str c t) ∧ n ≤ t ∧ t < m
  | _, _, _, _, _, _, .nil _, e => by simp at e
  | _, _, _, _, 0, _, .cons h1 h2 r, e => by
    simp at e; subst e
    exact ⟨_, by simp, h1, Nat.lt_of_lt_of_le h2 r.le⟩
  | _, _, _, _, i + 1, _, .cons h1 h2 r, e => by
    obtain ⟨t, e1, e2, e3⟩ := r.get (i := i) (by simpa using e)
    exact ⟨t, by simpa using e1, Nat.le_trans (Nat.le_of_lt (Nat.lt_of_le_of_lt h1 h2)) e2, e3⟩
theorem TkL.get_ge : ∀ {n m : Nat} {cs : List Str} {us : List Value} {i : Nat} {c : Str} {t : Nat}, TkL n m cs us → us[i]? = some (.str c t) → n ≤ t
  | _, _, _, _, _, _, _, .nil _, e => by simp at e
  | _, _, _, _, 0, _, _, .cons h1 h2 r, e => by
    simp at e
    obtain ⟨_, rfl⟩ := e
    exact h1
  | _, _, _, _, i + 1, _, _, .cons h1 h2 r, e => Nat.le_trans (Nat.le_of_lt (Nat.lt_of_le_of_lt h1 h2)) (TkL.get_ge r (i := i) (by simpa using e))
theorem TkL.inj : ∀ {n m : Nat} {cs : List Str} {us : List Value} {i j : Nat} {c d : Str} {t : Nat}, TkL n m cs us → us[i]? = some (.str c t) → us[j]? = some (.str d t) → c = d
  | _, _, _, _, _, _, _, _, _, .nil _, e, _ => by simp at e
  | _, _, _, _, 0, 0, _, _, _, .cons _ _ _, e, f => by
    simp at e f
    exact e.1.symm.trans f.1
  | _, _, _, _, 0, j + 1, _, _, _, .cons (k := k) h1 h2 r, e, f => by
    simp at e f
    obtain ⟨_, rfl⟩ := e
    exact absurd (Nat.lt_of_lt_of_le h2 (r.get_ge f)) (Nat.lt_irrefl _)
  | _, _, _, _, i + 1, 0, _, _, _, .cons h1 h2 r, e, f => by
    simp at e f
    obtain ⟨_, rfl⟩ := f
    exact absurd (Nat.lt_of_lt_of_le h2 (r.get_ge e)) (Nat.lt_irrefl _)
  | _, _, _, _, i + 1, j + 1, _, _, _, .cons h1 h2 r, e, f => r.inj (by simpa using e) (by simpa using f)
/-- a list of texts whose tokens are known to be unlike, and none the first -/
def TxtsAt (H : Hp) (a : Addr) (cs : List Str) : Prop :=
  ∃ (its : List Value) (n m k : Nat), H a = some (.frz { cls := .type "list", data := .seq its.toArray n } (.lst (cs.map V.str))) ∧ TkL m k cs its ∧ 1 ≤ m
theorem TxtsAt.seq {K : PySem.W.Frag} {H : Hp} {a : Addr} {cs : List Str} (h : TxtsAt H a cs) : SqL K H a (cs.map V.str) := by
  obtain ⟨its, n, m, k, e, _⟩ := h
  exact .inl (.inr ⟨_, e⟩)
theorem TxtsAt.same {H H' : Hp} {a : Addr} {cs : List Str} (h : TxtsAt H a cs) (e : H' a = H a) : TxtsAt H' a cs := by
  obtain ⟨its, n, m, k, e1, r⟩ := h
  exact ⟨its, n, m, k, e.trans e1, r⟩
/-! ### a step that swaps: its two texts' tokens are good for replace -/
def SwapAt (H : Hp) (p : Addr) (a b : Str) : Prop :=
  ∃ (n : Nat) (t0 t u : Tok), H p = some (.frz { cls := .type "tuple", data := .seq #[.str "swap" t0, .str a t, .str b u] n } (.tup [.str "swap", .str a, .str b])) ∧ t ≠ 0 ∧ u ≠ 0 ∧ (t = u → a = b)
theorem SwapAt.seq {K : PySem.W.Frag} {H : Hp} {p : Addr} {a b : Str} (h : SwapAt H p a b) : SqT K H p [.str "swap", .str a, .str b] := by
  obtain ⟨n, t0, t, u, e, _⟩ := h
  exact .inl (.inr ⟨_, e⟩)
theorem SwapAt.same {H H' : Hp} {p : Addr} {a b : Str} (h : SwapAt H p a b) (e : ∀ o u, H p = some (.frz o u) → H' p = some (.frz o u)) : SwapAt H' p a b := by
  obtain ⟨n, t0, t, u, e1, r⟩ := h
  exact ⟨n, t0, t, u, e _ _ e1, r⟩
/-- replace, whatever the tokens are -/
theorem replace_all {prog : Program} {w : World} {A : Around} {E : Value → Shared → Prop} {s : Shared} {x y z : Str} {t u v : Tok} {Q : Value → Shared → Prop} (hnb : NoneBooked s.heap) (hu : u ≠ 0) (hv : v ≠ 0) (huv : u = v → y = z)
    (hb : x.length + (x.length + 1) * z.length ≤ 16777216) (hq : ∀ t' k, Q (.str (Txt.replace x y z) t') { s with toks := k }) :
    wpAny (model prog w) A (call (.builtin "str.replace") [.str x t, .str y u, .str z v]) Q E s := by
  by_cases e : u = v
  · obtain rfl := huv e
    subst e
    have same : isSame (.str y u) (.str y u) = pure true := by
      show (if (u == 0 || u == 0) = true then _ else if (u == u) = true then pure true else _ : Sem Bool) = _
      rw [beq_eq_false_iff_ne.mpr hu, beq_self_eq_true u]
      rfl
    have g : Gives (Builtin.«str.replace» ⟨[.str x t, .str y u, .str y u], []⟩) (.val (.str x t)) := by
      show Gives (if ((Builtin.Str.occurrences x y 0 x.length (x.length + 1)).isEmpty || (y.length == 0 && y.length == 0)) = true then (do rule "str.replace.nothing"; ret (.str x t)) else
          (do let same ← isSame (.str y u) (.str y u)
              if same = true then (do rule "str.replace.old-is-new"; ret (.str x t)) else
              if Builtin.Str.tooLong (x.length + (Builtin.Str.occurrences x y 0 x.length (x.length + 1)).length * y.length) = true then unsupported "str.replace:memory" else
              retStr (Builtin.Str.glued y (Builtin.Str.partsBetween x (Builtin.Str.occurrences x y 0 x.length (x.length + 1)) y.length)))) _
      rw [same]
      cases ((Builtin.Str.occurrences x y 0 x.length (x.length + 1)).isEmpty || (y.length == 0 && y.length == 0))
      · exact .rule (.of_eq rfl)
      · exact .rule (.of_eq rfl)
    refine call_gives PySem.F.slot_str_replace (typeIs_str _ _ _) PySem.F.entry_str_replace (PySem.F.args_str_replace_3 _ _ _) g ?_
    have q := hq t s.toks
    rw [Txt.replace_self] at q
    exact q
  · exact PySem.SC.replaceA hu hv e hb hq hnb
end Pd

namespace Pd
open PySem PySem.Spec PyProof.Rows L2
/-! ### enumerate of a tuple -/
set_option maxHeartbeats 1000000 in
theorem meets_enum1 {v : Value} {o : Obj} {B : Heap → Prop} (b : Begins v o B) :
    Meets (Builtin.«enumerate.__new__» ⟨[.type "enumerate", v], []⟩) (fun _ R s => B s.heap ∧
      R (.ok (.ret (.ref (s.heap.push o).objs.size))) { s with heap := (s.heap.push o).push { cls := .type "enumerate", data := .fields #[.none, .bool false, .ref s.heap.objs.size, rawInt 0, .none, .none] } }) :=
  .of_wp fun prog w A R s h => by
    obtain ⟨hp, g, d, tk, os⟩ := s
    obtain ⟨h1, h2⟩ := h
    have hsub := sub_enumerate
    have it1 : ∀ {A' : Around} {E : Value → Shared → Prop} {Q : Value → Shared → Prop}, Q (.ref hp.objs.size) ⟨hp.push o, g, d, tk, os⟩ → wpAny (model prog w) A' (pyIter v) Q E ⟨hp, g, d, tk, os⟩ :=
      fun q => b.iter prog w _ _ ⟨hp, g, d, tk, os⟩ _ h1 q
    wp_walk using it1
    refine wpAny_stack_any fun st => wpAny_pure ?_
    split
    · rename_i c _ _ _ _ _
      cases (c == Value.type "enumerate")
      · wp_walk using it1
        exact ⟨_, rfl, h2⟩
      · wp_walk using it1
        exact ⟨_, rfl, h2⟩
    · wp_walk using it1
      exact ⟨_, rfl, h2⟩
theorem call_enum1 {prog : Program} {w : World} {A : Around} {E : Value → Shared → Prop} {s : Shared} {v : Value} {o : Obj} {B : Heap → Prop} {Q : Value → Shared → Prop} (b : Begins v o B) (h1 : B s.heap)
    (h : ∀ g, IsEnum g (s.heap.objs.size + 1) s.heap.objs.size 0 .none → g.get? s.heap.objs.size = some o →
      (∀ b o, s.heap.get? b = some o → g.get? b = some o) → Q (.ref (s.heap.objs.size + 1)) { s with heap := g }) :
    wpAny (model prog w) A (call (.type "enumerate") [v]) Q E s := by
  refine callType_new F.called_enumerate (by decide) (F.typeCall_enumerate_1 _) (F.newCall_enumerate_1 _) (fun obj => F.args_object_init_2 obj _) F.entry_enumerate_new (meets_enum1 b) ⟨h1, ?_⟩
  have z : (s.heap.push o).objs.size = s.heap.objs.size + 1 := Heap.size_push ..
  show _ ∧ _
  rw [z]
  have he := Heap.get?_push_size (s.heap.push o) (o := { cls := .type "enumerate", data := .fields #[.none, .bool false, .ref s.heap.objs.size, rawInt 0, .none, .none] }) rfl
  rw [z] at he
  exact ⟨⟨_, he, rfl⟩, h _ he (Heap.get?_push_of_some _ (Heap.get?_push_size _ b.free)) fun b o x => Heap.get?_push_of_some _ (Heap.get?_push_of_some _ x)⟩
def ItE (K : PySem.W.Frag) (a : Addr) : It :=
  ⟨fun i H => ∃ (xs : List V) (x : V), SqT K H a xs ∧ xs[i]? = some x, fun i H v H' => ∃ T x, v = .ref T ∧ H T = none ∧ H' = upd H T (.tup [.int (i : Nat), x]) ∧ ∀ xs, SqT K H a xs → xs[i]? = some x, fun i H => ∃ xs : List V, SqT K H a xs ∧ xs.length = i⟩
theorem turn_enumT {P : Program} {w : World} {K : PySem.W.Frag} {elts : List Expr} {kk : Nat} {tpos : Pos} (a e it : Addr) :
    Turn P w K (.Tuple elts kk tpos) (ItE K a) [e, it] e (fun i h => (∃ old, IsEnum h e it ((i : Nat) : Int) old) ∧ h.IsTupleIter it a i ∧ e ≠ it ∧ a ≠ it ∧ e ≠ a) where
  mem := by simp
  obj := fun i h st b hb => by
    obtain ⟨⟨old, he⟩, ⟨o, ho, hc, hd⟩, _⟩ := st
    have z : b = e ∨ b = it := by simpa using hb
    rcases z with rfl | rfl
    · exact ⟨_, he, fun v q => nomatch q⟩
    · exact ⟨o, ho, fun v q => by rw [hd] at q; cases q⟩
  keep := fun i h h' st k => let ⟨⟨old, he⟩, hi, hne⟩ := st; ⟨⟨old, k e (by simp) _ he⟩, hi.at fun o q => k it (by simp) o q, hne⟩
  item := by
    intro X hP hw hK hc i pins s σ H E I hf st hg
    subst hP hw hK
    obtain ⟨⟨old, he⟩, hit, hne, hai, hea⟩ := st
    obtain ⟨xs, x, hq, hx⟩ := hg
    obtain ⟨its, rv, p, hz⟩ := I.tuple hq
    obtain ⟨u, hu, ru⟩ := rv.get hx
    have hel : e < s.heap.objs.size := Heap.lt_size he
    have hil : it < s.heap.objs.size := by obtain ⟨_, q, _⟩ := hit; exact Heap.lt_size q
    have lt : i < its.toArray.size := by
      have := (List.getElem?_eq_some_iff.mp hu).1
      simpa using this
    refine wpAny_pyNext_enum_itemD (Draws.tuple (prog := X.prog) (w := X.w) (A := X.A.in1) (by exact I.ok.hd hc) it a hai its.toArray) he ⟨hit, p⟩ lt hne (by simp [hne, hea]) fun y g tk hy ho st' hT hsz hk => ?_
    have ey : y = u := by
      have : its[i]? = some y := by simpa using hy
      rw [hu] at this
      exact (Option.some.inj this).symm
    subst ey
    refine ⟨_, rfl, wpAny_letOwnedTupleGo_enum (s := { s with heap := g, toks := tk + 1 }) ho fun g2 he' sb => ?_⟩
    have hT2 : g2.get? s.heap.objs.size = some { cls := .type "tuple", data := .seq #[.int i tk, y] } := (sb.2 _ (Nat.ne_of_gt hel)).trans hT
    have new : ObjOk X.prog X.w (upd H s.heap.objs.size (.tup [.int (i : Nat), x])) g2 s.heap.objs.size (.tup [.int (i : Nat), x]) :=
      ⟨by show 2 ≤ sizeLine; decide, [.int i tk, y], .cons ⟨_, rfl⟩ (.cons ru .nil), ⟨_, hT2, rfl, _, rfl⟩⟩
    have I1 : Inv X pins σ (upd H s.heap.objs.size (.tup [.int (i : Nat), x])) { s with heap := g2, toks := tk + 1 } :=
      I.turnedNew (ch := [e, it]) (fun b ob hb q => (sb.2 b (fun z => hb (by simp [z]))).trans (hk b ob (fun z => hb (by simp [z])) (fun z => hb (by simp [z])) q)) hf (Nat.le_refl _) new
    refine ⟨.ref s.heap.objs.size, _, I1, rfl, ⟨_, x, rfl, I.hok.fresh (Nat.le_refl _), rfl, fun ys hy => by rw [I.tuple_inj hy hq]; exact hx⟩, ⟨⟨y, ?_⟩, st'.1.at fun o q => (sb.2 it (Ne.symm hne)).trans q, hne, hai, hea⟩, fun b hb => ?_⟩
    · have e1 : ((i + 1 : Nat) : Int) = (i : Int) + 1 := by omega
      rw [e1]; exact he'
    · have hb' : b < s.heap.objs.size := by
        have z : b = e ∨ b = it := by simpa using hb
        rcases z with rfl | rfl
        · exact hel
        · exact hil
      rw [upd_ne (Nat.ne_of_lt hb')]
      exact (hf b hb).1
  done := by
    intro X hP hw hK hc i pins s σ H E I hf st hg
    subst hP hw hK
    obtain ⟨⟨old, he⟩, hit, hne, hai, hea⟩ := st
    obtain ⟨xs, hq, hx⟩ := hg
    obtain ⟨its, rv, p, hz⟩ := I.tuple hq
    obtain ⟨f0, f1, f2, f3, f4, f5⟩ := hf it (by simp)
    have hl : its.toArray.size = i := by rw [List.size_toArray, ← rv.length, hx]
    refine wpAny_pyNext_enum_endD (i := ((i : Nat) : Int)) (Draws.tuple (prog := X.prog) (w := X.w) (A := X.A.in1) (by exact I.ok.hd hc) it a hai its.toArray) he (by rw [hl]; exact ⟨hit, p⟩) fun g eb => ⟨rfl, I.turned (t' := s.toks) (fun b o hb q => eb b o hb q) f0 f1 f3 f4 f5⟩
  self := fun A i s Q E st h => let ⟨⟨_, he⟩, _⟩ := st; wpAny_pyIter_enum he h
def iEnumT (K : PySem.W.Frag) (ta : TA) : TI := fun σ H R => ta σ H fun vs H1 => ∃ a xs, vs = [.ref a] ∧ SqT K H1 a xs ∧ R (ItE K a) H1
theorem pi_enumT {X : Cx} {e : Expr} {ta : TA} {p pos tpos : Pos} {elts : List Expr} {kk : Nat} (hg : Gl X "enumerate") (hm : X.mg "enumerate" = none) (ha : PA X [e] ta) (hs : starEach [e] X.env = [(false, eval e X.env)] := by rfl) :
    PI X (.Tuple elts kk tpos) (.Call (.Name "enumerate" p) [e] [] pos) (iEnumT X.K ta) := by
  constructor
  intro pins s σ H R I h
  refine Call_ (ld_blt I hg hm boot_enumerate (PyProof.Rows.callWith_type1 (thn (ha.run pos pins s σ H _ I h) ?_) hs rfl))
  rintro us s1 ⟨vs, H1, I1, r1, a, xs, rfl, hq, q⟩
  obtain ⟨u, rfl, r⟩ := vals1 r1
  cases r
  obtain ⟨its, rv, p', hz⟩ := I1.tuple hq
  refine call_enum1 (begins_tuple a its.toArray) p' fun g he hit hk => wpAny_pyIter_enum he ?_
  have I2 : Inv X pins σ H1 { s1 with heap := g } := I1.kept (t' := s1.toks) hk
  have al : a < s1.heap.objs.size := p'.lt
  have st : (∃ old, IsEnum g (s1.heap.objs.size + 1) s1.heap.objs.size ((0 : Nat) : Int) old) ∧ g.IsTupleIter s1.heap.objs.size a 0 ∧ (s1.heap.objs.size + 1) ≠ s1.heap.objs.size ∧ a ≠ s1.heap.objs.size ∧ (s1.heap.objs.size + 1) ≠ a :=
    ⟨⟨.none, he⟩, ⟨_, hit, rfl, rfl⟩, Nat.succ_ne_self _, Nat.ne_of_lt al, Nat.ne_of_gt (Nat.lt_succ_of_lt al)⟩
  refine ⟨s1.heap.objs.size + 1, [s1.heap.objs.size + 1, s1.heap.objs.size], _, _, H1, rfl, I2, turn_enumT a (s1.heap.objs.size + 1) s1.heap.objs.size, st, fun b hb => ?_, q⟩
  have z : b = s1.heap.objs.size + 1 ∨ b = s1.heap.objs.size := by simpa using hb
  have hle : s1.heap.objs.size ≤ b := by
    rcases z with rfl | rfl
    · exact Nat.le_add_right _ _
    · exact Nat.le_refl _
  exact I1.fpOk hle (I1.hok.fresh hle)
/-- a for over it: at each turn a new pair -/
theorem walk_enumT {K : PySem.W.Frag} {a : Addr} {xs : List V} : Walk (ItE K a) xs.length (fun H => SqT K H a xs) (YPair (fun i => some (.int (i : Nat))) (fun i => xs[i]?)) := by
  refine ⟨fun i _ hi q => ⟨xs, xs[i], q, by simp [hi]⟩, fun _ q => ⟨xs, q, rfl⟩, fun i H v H' _ q y => ?_⟩
  obtain ⟨T, x, h1, h2, h3, h4⟩ := y
  exact ⟨T, .int (i : Nat), x, h1, h2, h3, rfl, h4 xs q⟩
/-! ### text.replace(step[1], step[2]), step a swap -/
def tRepl (to : TE) (i : Nat) : TE := fun σ H Q => to σ H fun v H1 => ∃ x p a b, v = .str x ∧ σ[i]? = some (some (.ref p)) ∧ SwapAt H1 p a b ∧ x.length + (x.length + 1) * b.length ≤ 16777216 ∧ Q (.str (Txt.replace x a b)) H1
/-- a local name that holds an object -/
theorem name_ref {X : Cx} {pins : List (Addr × Obj)} {σ : L2.St} {H : Hp} {s : Shared} {i : Nat} {x : Str} {p : Addr} {pos : Pos} {Q E : Value → Shared → Prop} (hN : X.N[i]? = some x) (hv : X.env.scope.names.lookup x = some .local) (I : Inv X pins σ H s)
    (hσ : σ[i]? = some (some (.ref p))) (q : Q (.ref p) s) (hd : (x == ("__debug__" : Str)) = false := by decide) : wpAny (model X.prog X.w) X.A (eval (.Name x pos) X.env) Q E s := by
  obtain ⟨m, hn, hl⟩ := I.loc
  obtain ⟨u, r, l⟩ := hl i x _ hN hσ (.inl hv)
  obtain rfl : u = Value.ref p := r
  rcases l with ⟨hk, hm⟩ | ⟨hk, _⟩
  · exact wpAny_Name (wpAny_loadName_local I.ok.kind hk hn hm q) hd
  · have hv' : X.env.kindOf x = some .local := hv
    rw [hv'] at hk
    rcases hk with hk | hk <;> cases hk
/-- an item at a written place of a tuple whose object is known -/
theorem item_raw {X : Cx} {pins : List (Addr × Obj)} {σ : L2.St} {H : Hp} {s : Shared} {i : Nat} {x : Str} {p : Addr} {its : Array Value} {k : Int} {j : Nat} {w : Value} {p1 cp pos : Pos} {Q E : Value → Shared → Prop} (hN : X.N[i]? = some x)
    (hv : X.env.scope.names.lookup x = some .local) (I : Inv X pins σ H s) (hσ : σ[i]? = some (some (.ref p))) (ht : s.heap.IsTuple p its) (h0 : 0 ≤ k) (h1 : k < its.size) (hz : its.size ≤ 1000) (hw : its[k.toNat]? = some w) (fin : ∀ tk, Q w { s with toks := tk })
    (hs : PlainIx (.Constant (.int k) j cp)) (hd : (x == ("__debug__" : Str)) = false := by decide) :
    wpAny (model X.prog X.w) X.A (eval (.Subscript (.Name x p1) (.Constant (.int k) j cp) pos) X.env) Q E s := by
  refine Subscript_ (name_ref hN hv I hσ (wpAny_Constant_int ?_) hd)
  exact subscriptTail_builtinR (x := w) ht.typeIs slot_tuple_getitem.lookup
    (getItem_tuple (j := k.toNat) (Q := fun r s' => r = w ∧ Q r s') ht (by omega) (by omega) (by rw [seqIndex_of h0 h1]) hw ⟨rfl, fin _⟩) (hs _ _)
theorem pe_replT {X : Cx} {i : Nat} {kx : Str} {o : Expr} {to : TE} {j0 j1 : Nat} {p2 p3 c0 c1 q0 q1 apos pos : Pos} (nb : NoneBooked X.base) (ho : PE X o to) (hN : X.N[i]? = some kx) (hv : X.env.scope.names.lookup kx = some .local) (hd : (kx == ("__debug__" : Str)) = false := by decide)
    (hst : starEach [.Subscript (.Name kx p2) (.Constant (.int 1) j0 c0) q0, .Subscript (.Name kx p3) (.Constant (.int 2) j1 c1) q1] X.env =
      [(false, eval (.Subscript (.Name kx p2) (.Constant (.int 1) j0 c0) q0) X.env), (false, eval (.Subscript (.Name kx p3) (.Constant (.int 2) j1 c1) q1) X.env)] := by rfl)
    (hbase : attributeBase o "replace" X.env (eval o X.env) = eval o X.env := by rfl) (hline : (apos.endLine == pos.line) = true := by rfl) :
    PE X (.Call (.Attribute o "replace" apos) [.Subscript (.Name kx p2) (.Constant (.int 1) j0 c0) q0, .Subscript (.Name kx p3) (.Constant (.int 2) j1 c1) q1] [] pos) (tRepl to i) := by
  constructor
  intro pins s σ H Q I h
  refine PySem.Call_method2 hbase hst hline (thn (ho.run pins s σ H _ I h) ?_)
  rintro v s1 ⟨y, H1, I1, r1, x, p, a, b, rfl, hσ, ⟨n, t0, t, u, hp, ht, hu, htu⟩, hz, q⟩
  obtain ⟨tx, rfl⟩ := r1
  obtain ⟨hob, _⟩ := I1.hok p _ hp
  have tup : ∀ k, ({ s1 with toks := k } : Shared).heap.IsTuple p #[.str "swap" t0, .str a t, .str b u] := fun k => ⟨_, hob, rfl, n, rfl⟩
  refine ⟨"str", _, F.plainAttrs_str, F.slot_str_replace, F.type_str_replace, typeIs_str _ _ _, (fun _ e => nomatch e), Calls.callWith_builtin rfl (Calls.evalArgs_plain (Calls.spliced_cons ?_))⟩
  refine item_raw hN hv I1 hσ (tup s1.toks) (by decide) (by show (1:Int) < ((3:Nat):Int); decide) (by show 3 ≤ 1000; decide) rfl (fun k1 => ?_) (fun _ _ => rfl) hd
  refine Calls.spliced_cons (item_raw hN hv (I1.tok k1) hσ (tup k1) (by decide) (by show (2:Int) < ((3:Nat):Int); decide) (by show 3 ≤ 1000; decide) rfl (fun k2 => Calls.spliced_nil ?_) (fun _ _ => rfl) hd)
  exact replace_all (s := { s1 with toks := k2 }) (unbooked nb (I1.tok k2)) ht hu htu hz fun t' k => ⟨.str (Txt.replace x a b), H1, I1.tok k, ⟨t', rfl⟩, q⟩
end Pd

namespace Pd
open PySem PySem.Spec PyProof.Rows L2
/-! ### way, sign = .., signs[..]; the returns by way; the one of a swap by known tokens -/
section
variable {X : Cx} {pins : List (Addr × Obj)} {σ : L2.St} {H : Hp} {s : Shared}
theorem test_int {i : Nat} {x : Str} {n k : Int} {j : Nat} {p1 cp pos : Pos} {whole : Sem Value} {Q : Bool → Shared → Prop} {E : Value → Shared → Prop} (hN : X.N[i]? = some x) (hv : X.env.scope.names.lookup x = some .local) (I : Inv X pins σ H s)
    (hσ : σ[i]? = some (some (.int n))) (q : Q (n == k) { s with toks := s.toks + 1 }) (hd : (x == ("__debug__" : Str)) = false := by decide) :
    wpAny (model X.prog X.w) X.A (isTrue (.Compare (.Name x p1) [.Eq] [.Constant (.int k) j cp] pos) X.env whole) Q E s := by
  obtain ⟨m, hn, hl⟩ := I.loc
  obtain ⟨u, r, l⟩ := hl i x _ hN hσ (.inl hv)
  obtain ⟨t, rfl⟩ := r
  rcases l with ⟨hk, hm⟩ | ⟨hk, _⟩
  · exact wpAny_isTrue_Compare1 (wpAny_Name (wpAny_loadName_local I.ok.kind hk hn hm (wpAny_Constant_int (eq_int (wpAny_truthy_bool q)))) hd)
  · have hv' : X.env.kindOf x = some .local := hv
    rw [hv'] at hk
    rcases hk with hk | hk <;> cases hk
/-- an item of a list of texts, its token known -/
theorem pick_raw {ig : Nat} {gx : Str} {a : Addr} {cs : List Str} {its : List Value} {n m k : Nat} {idx : Expr} {ti : TE} {p1 pos : Pos} {R : Value → Shared → Prop} (hN : X.N[ig]? = some gx) (hv : X.env.scope.names.lookup gx = some .local) (I : Inv X pins σ H s)
    (hσ : σ[ig]? = some (some (.ref a))) (hi : PE X idx ti) (hs : PlainIx idx) (tk : TkL m k cs its) (hz : cs.length ≤ 1000)
    {C : V → Hp → Prop} (h : ti σ H C) (hC : ∀ y H2, C y H2 → ∃ (i : Int) (c : Str), y = .int i ∧ H2 a = some (.frz { cls := .type "list", data := .seq its.toArray n } (.lst (cs.map V.str))) ∧ 0 ≤ i ∧ cs[i.toNat]? = some c ∧
      ∀ s2 t, Inv X pins σ H2 s2 → its[i.toNat]? = some (.str c t) → m ≤ t → s.toks ≤ s2.toks → R (.str c t) s2) (hd : (gx == ("__debug__" : Str)) = false := by decide) :
    wpAny (model X.prog X.w) X.A (eval (.Subscript (.Name gx p1) idx pos) X.env) R X.xe s := by
  refine Subscript_ (name_ref hN hv I hσ (thn (tkE (Nat.le_refl s.toks) (hi.run pins s σ H _ I h)) ?_) hd)
  rintro u s2 ⟨ht, y, H2, I2, ry, hy⟩
  obtain ⟨i, c, rfl, hf, h0, hc, q⟩ := hC y H2 hy
  obtain ⟨t, rfl⟩ := ry
  obtain ⟨hob, _⟩ := I2.hok a _ hf
  obtain ⟨t2, e, l1, l2⟩ := tk.get hc
  have lst : s2.heap.IsList a its.toArray := ⟨_, hob, rfl, n, rfl⟩
  have hb : i.toNat < cs.length := (List.getElem?_eq_some_iff.mp hc).1
  exact item_listR lst h0 (by omega) (by simpa using e) (q s2 t2 I2 e l1 ht) (hs _ _)
end
def tSwap (iw is ig : Nat) (t1 ti ti2 : TE) (t0 tr : TS) : TS := fun D σ H => t1 σ H fun x H1 => ∃ (n : Int) (a : Addr) (cs : List Str), x = .int n ∧ σ[ig]? = some (some (.ref a)) ∧ cs.length ≤ 1000 ∧ TxtsAt H1 a cs ∧
  ti σ H1 fun y H2 => ∃ (i : Int) (c : Str), y = .int i ∧ H2 a = H1 a ∧ 0 ≤ i ∧ cs[i.toNat]? = some c ∧
  (n = 0 → t0 { D with nx := fun _ _ => False } ((σ.set iw (some (.int n))).set is (some (.str c))) H2) ∧
  (n = 1 → ti2 ((σ.set iw (some (.int n))).set is (some (.str c))) H2 fun y2 H3 => ∃ (j : Int) (d : Str), y2 = .int j ∧ H3 a = H2 a ∧ 0 ≤ j ∧ cs[j.toNat]? = some d ∧
    ∀ p H4, H3 p = none → SwapAt H4 p c d → (∀ b, b ≠ p → H4 b = H3 b) → D.rt (.ref p) H4) ∧
  (n ≠ 0 → n ≠ 1 → tr D ((σ.set iw (some (.int n))).set is (some (.str c))) H2)
set_option maxHeartbeats 1000000 in
theorem pss_swap {X : Cx} {iw is ig : Nat} {wx sx gx : Str} {e1 idx idx2 : Expr} {t1 ti ti2 : TE} {t0 tr : TS} {r0 rest : List Stmt} {k0 k1 k2 : Nat} {j0 j1 j2 : Nat}
    {a1 a2 a3 a4 a5 a6 a7 b1 b2 b3 b4 c1 c2 c3 c4 c5 c6 c7 c8 c9 c10 : Pos} (hc : X.calm = true) (hN : X.N.Nodup)
    (hw : X.N[iw]? = some wx) (hs : X.N[is]? = some sx) (hg : X.N[ig]? = some gx) (n1 : iw ≠ is) (n2 : ig ≠ iw) (n3 : ig ≠ is)
    (lw : X.env.scope.names.lookup wx = some .local) (ls : X.env.scope.names.lookup sx = some .local) (lg : X.env.scope.names.lookup gx = some .local)
    (h1 : PE X e1 t1) (hi : PE X idx ti) (hi2 : PE X idx2 ti2) (p1 : PlainIx idx) (p2 : PlainIx idx2) (h0 : PSs X r0 t0) (hr : PSs X rest tr)
    (dw : (wx == ("__debug__" : Str)) = false) (ds : (sx == ("__debug__" : Str)) = false) (dg : (gx == ("__debug__" : Str)) = false)
    (hst : starEach [e1, .Subscript (.Name gx a1) idx a2] X.env = [(false, eval e1 X.env), (false, eval (.Subscript (.Name gx a1) idx a2) X.env)])
    (hst2 : starEach [.Constant (.str "swap") j2 c5, .Name sx c6, .Subscript (.Name gx c7) idx2 c8] X.env = [(false, eval (.Constant (.str "swap") j2 c5) X.env), (false, eval (.Name sx c6) X.env), (false, eval (.Subscript (.Name gx c7) idx2 c8) X.env)])
    (hsw : swappedStores [.Tuple [.Name wx a3, .Name sx a4] k0 a5] (.Tuple [e1, .Subscript (.Name gx a1) idx a2] k1 a6) X.env = pure (some [wx, sx]))
    (hss : swapsWithSole [.Tuple [.Name wx a3, .Name sx a4] k0 a5] (.Tuple [e1, .Subscript (.Name gx a1) idx a2] k1 a6) a7.line X.env = pure false) :
    PSs X (.Assign [.Tuple [.Name wx a3, .Name sx a4] k0 a5] (.Tuple [e1, .Subscript (.Name gx a1) idx a2] k1 a6) a7
      :: .If (.Compare (.Name wx b1) [.Eq] [.Constant (.int 0) j0 b2] b3) r0 [] b4
      :: .If (.Compare (.Name wx c1) [.Eq] [.Constant (.int 1) j1 c2] c3) [.Return (some (.Tuple [.Constant (.str "swap") j2 c5, .Name sx c6, .Subscript (.Name gx c7) idx2 c8] k2 c9)) c4] [] c10
      :: rest) (tSwap iw is ig t1 ti ti2 t0 tr) := by
  constructor
  intro pins s σ H D I h
  refine wpAny_execs_cons ?_
  rw [exec_Assign_arm]
  refine wpAny_bind (wpAny_standAt ?_)
  rw [hss]
  refine wpAny_bind (wpAny_pure ?_)
  rw [if_neg (by decide)]
  refine wpAny_bind (Tuple_ ?_)
  rw [hst]
  show wpAny _ _ (spliced ((false, eval e1 X.env) :: [(false, eval (.Subscript (.Name gx a1) idx a2) X.env)])) _ _ s
  refine Calls.spliced_cons (thn (h1.run pins s σ H _ I h) ?_)
  rintro u1 s1 ⟨x, H1, I1, r1, n, a, cs, rfl, hσ, hz, ⟨its, nn, m, k, hf, tk, hm⟩, h2⟩
  refine Calls.spliced_cons (pick_raw (n := nn) hg lg I1 hσ hi p1 tk hz h2 ?_ dg)
  rintro y H2 ⟨i, c, rfl, ha, h0', hcs, w0, w1, w2⟩
  refine ⟨i, c, rfl, ha.trans hf, h0', hcs, fun s2 t I2 e2 hmt hst' => Calls.spliced_nil ?_⟩
  obtain ⟨tn, rfl⟩ := r1
  refine wpAny_newObj_type ?_ (by show 2 ≤ sizeLine; decide)
  have I3 : Inv X pins σ H2 { s2 with heap := s2.heap.push { cls := .type "tuple", data := .seq [Value.int n tn, .str c t].toArray } } := I2.kept (t' := s2.toks) fun b o e => Heap.get?_push_of_some _ e
  rw [hsw]
  refine wpAny_bind (wpAny_pure ?_)
  show wpAny (model X.prog X.w) X.A (do rule "assign.swapped-stores"; let items ← unpackItems (.ref s2.heap.objs.size) 2 none; assignInOrder [fun v => bindName X.env sx v, fun v => bindName X.env wx v] items.reverse; pure Flow.next) _ _ _
  refine wpAny_bind (wpAny_rule (wpAny_bind (unpackItems_tuple (items := #[Value.int n tn, .str c t]) (I.ok.hd hc) (IsTup.new s2.heap _) fun g hx' => ?_)))
  have I4 := I3.kept (h' := g) (t' := s2.toks) fun b o e => hx' b o (Nat.ne_of_lt (Heap.lt_size e)) e
  show wpAny _ _ (assignInOrder [fun v => bindName X.env sx v, fun v => bindName X.env wx v] [Value.str c t, .int n tn] >>= fun _ => pure Flow.next) _ _ _
  refine wpAny_bind (assignInOrder_cons (wpAny_bindName (store_raw (v := V.str c) I4 hN hs ls ⟨t, rfl⟩ fun s3 I5 K5 _ _ => ?_)))
  refine assignInOrder_cons (wpAny_bindName (store_raw (v := V.int n) I5 hN hw lw ⟨tn, rfl⟩ fun s4 I6 _ keep6 _ => assignInOrder_nil (wpAny_pure ?_)))
  have K6 : Holds X s4 sx (.str c t) := keep6 sx _ (fun e => n1 (nodup_ix hN hw (e ▸ hs))) K5
  rw [List.set_comm _ _ (Ne.symm n1)] at I6
  have hl : σ.length = X.N.length := I.len
  have lw1 : iw < σ.length := by rw [hl]; exact (List.getElem?_eq_some_iff.mp hw).1
  have sw : ((σ.set iw (some (V.int n))).set is (some (.str c)))[iw]? = some (some (.int n)) := by
    rw [List.getElem?_set_ne (Ne.symm n1), List.getElem?_set_self lw1]
  have sg : ((σ.set iw (some (V.int n))).set is (some (.str c)))[ig]? = some (some (.ref a)) := by
    rw [List.getElem?_set_ne (Ne.symm n3), List.getElem?_set_ne (Ne.symm n2)]; exact hσ
  generalize hS : (σ.set iw (some (V.int n))).set is (some (.str c)) = σ' at *
  -- if way == 0
  refine wpAny_execs_cons (wpAny_If (test_int hw lw I6 sw ?_ dw))
  by_cases e0 : n = 0
  · have e : (n == 0) = true := by simp [e0]
    rw [e]
    refine thn (h0.run pins _ σ' H2 _ (I6.tok _) (w0 e0)) fun f s5 q => ?_
    cases f with
    | next => obtain ⟨_, _, _, z⟩ := q; exact z.elim
    | ret v => exact q
    | brk => exact q
    | cont => exact q
  · have e : (n == 0) = false := by simp [e0]
    rw [e]
    refine wpAny_execs_nil ?_
    -- if way == 1
    refine wpAny_execs_cons (wpAny_If (test_int hw lw (I6.tok _) sw ?_ dw))
    by_cases e1 : n = 1
    · have e : (n == 1) = true := by simp [e1]
      rw [e]
      refine wpAny_execs_cons (wpAny_Return_some (Tuple_ ?_))
      rw [hst2]
      show wpAny _ _ (spliced ((false, eval (.Constant (.str "swap") j2 c5) X.env) :: (false, eval (.Name sx c6) X.env) :: [(false, eval (.Subscript (.Name gx c7) idx2 c8) X.env)])) _ _ _
      refine Calls.spliced_cons (Calls.Constant_str (Calls.spliced_cons ?_))
      refine ((K6.tok _).tok _).load (((I6.tok _).tok _).tok _) (Calls.spliced_cons ?_) ds
      refine pick_raw (n := nn) hg lg (((I6.tok _).tok _).tok _) sg hi2 p2 tk hz (w1 e1) ?_ dg
      rintro y2 H3 ⟨j, d, rfl, ha3, hj, hd, fin⟩
      refine ⟨j, d, rfl, ha3.trans (ha.trans hf), hj, hd, fun s5 t2 I7 e7 hmt2 _ => Calls.spliced_nil ?_⟩
      refine wpAny_newTuple ?_ (by show 3 ≤ sizeLine; decide)
      have new : H3 s5.heap.objs.size = none := I7.hok.fresh (Nat.le_refl _)
      refine ⟨.ref s5.heap.objs.size, σ', upd H3 s5.heap.objs.size (.frz { cls := .type "tuple", data := .seq #[.str "swap" s4.toks.succ.succ, .str c t, .str d t2] 0 } (.tup [.str "swap", .str c, .str d])), ?_, rfl, fin _ _ new ⟨0, _, t, t2, upd_same, Nat.ne_of_gt (Nat.lt_of_lt_of_le hm hmt), Nat.ne_of_gt (Nat.lt_of_lt_of_le hm hmt2), fun z => ?_⟩ fun b hb => upd_ne hb⟩
      · refine I7.laid (t' := s5.toks) (fun b o q => Heap.get?_push_of_some _ q) (Nat.le_refl _) ⟨Heap.get?_push_size _ rfl, by show 3 ≤ sizeLine; decide, [.str "swap" _, .str c t, .str d t2], .cons ⟨_, rfl⟩ (.cons ⟨_, rfl⟩ (.cons ⟨_, rfl⟩ .nil)), ⟨_, Heap.get?_push_size _ rfl, rfl, _, rfl⟩⟩
      · subst z
        exact tk.inj e2 e7
    · have e : (n == 1) = false := by simp [e1]
      rw [e]
      exact wpAny_execs_nil (hr.run pins _ σ' H2 D ((I6.tok _).tok _) (w2 e0 e1))
end Pd

namespace Pd
open PySem PySem.Spec PyProof.Rows L2
/-! ### a comprehension over a range whose items are new texts: the list stays untracked, its tokens are known -/
theorem TkL.snoc : ∀ {n m p t : Nat} {c : Str} {cs : List Str} {us : List Value}, TkL n m cs us → m ≤ t → t < p → TkL n p (cs ++ [c]) (us ++ [.str c t])
  | _, _, _, _, _, _, _, r, h1, h2 => r.app (.cons h1 h2 (.nil (Nat.le_refl _)))
theorem TkL.up : ∀ {n m m' : Nat} {cs : List Str} {us : List Value}, TkL n m cs us → m ≤ m' → TkL n m' cs us
  | _, _, _, _, _, .nil h, l => .nil (Nat.le_trans h l)
  | _, _, _, _, _, .cons h1 h2 r, l => .cons h1 h2 (r.up l)
set_option maxHeartbeats 2000000 in
theorem lcT {X : Cx} {pins : List (Addr × Obj)} {s : Shared} {σ : L2.St} {H : Hp} {elt iter : Expr} {kx : Str} {ik : Nat} {px pos : Pos} {scope : Scope} {own : List (Str × Nat)} {ta : TA} {te : TE} {R : Value → Shared → Prop}
    (hc : X.calm = true) (hN : X.N.Nodup) (I : Inv X pins σ H s) (hi : PI X (.Name kx px) iter (iRng1 ta)) (ok : BlkOk X.N X.env.scope scope own) (hik : ik ∈ own.map (·.2))
    (hg : ∀ (s : Shared) (H : Hp) (C : Addr) (cl : List (Str × Addr)) (fp : List Addr), PG (X.blk s H scope (compEnvC scope cl C X.env) fp) (.Name kx px) (gName ik))
    (he : ∀ (s : Shared) (H : Hp) (C : Addr) (cl : List (Str × Addr)) (fp : List Addr), PEF (X.blk s H scope (compEnvC scope cl C X.env) fp) elt te)
    (hs : ∀ x, foldedSetIterable iter X.env x = pure x) {R0 : It → Hp → Prop} (h : iRng1 ta σ H R0)
    (hR : ∀ J H1, R0 J H1 → ∃ (n : Nat) (P : Nat → Hp → Prop) (G : Str → Prop), J = Itr 0 n ∧ n ≤ 1000 ∧ P 0 H1 ∧
      (∀ i H2, i < n → P i H2 → te ((wipe σ (own.map (·.2))).set ik (some (.int (0 + i)))) H2 fun y H3 => ∃ c, y = .str c ∧ G c ∧ P (i + 1) H3) ∧
      ∀ D cs its nn s' H', Inv X pins σ H' s' → P n H' → cs.length = n → (∀ c ∈ cs, G c) → TkL (s.toks + 1) (s'.toks + 1) cs its → s.toks ≤ s'.toks →
        s'.heap.get? D = some { cls := .type "list", data := .seq its.toArray nn } → H' D = none → R (.ref D) s') :
    wpAny (model X.prog X.w) X.A (eval (.ListComp elt [⟨.Name kx px, iter, [], 0⟩] scope pos) X.env) R X.xe s := by
  rw [eval_ListComp]
  have hfree : ∀ y ∈ scope.names, y.2 = .free → ∃ c, X.env.cells.lookup y.1 = some c := fun y hy e => by
    rcases ok.free y hy e with k | k
    · exact I.ok.has _ (.inl k)
    · exact I.ok.has _ (.inr k)
  refine wpAny_comprehension_free (use := none) rfl hs (closure_ok hfree) ok.kind (fun y hy e => by rw [ok.uniq y hy, e]) (thn (tkE (Nat.le_refl s.toks) (hi.run pins s σ H R0 I h)) ?_)
  rintro xv s1 ⟨l1, hx⟩
  refine thn (tkE l1 hx) ?_
  rintro itv s2 ⟨l2, it, fp, tn, J, H2, rfl, I2, T, st2, f2, q⟩
  obtain ⟨n, P, G, rfl, hn, p0, turn, fin⟩ := hR _ _ q
  refine wpAny_newObj_type (newEnv_comp ?_) (by show 0 ≤ sizeLine; decide)
  generalize hD : s2.heap.objs.size = D
  have dn : H2 D = none := I2.hok.fresh (Nat.le_of_eq hD)
  generalize hs3 : ({ s2 with heap := s2.heap.push { cls := .type "list", data := .seq ([] : List Value).toArray } } : Shared) = s3
  have I3 : Inv X pins σ H2 s3 := by
    rw [← hs3]
    exact I2.kept (t' := s2.toks) fun b o e => Heap.get?_push_of_some _ e
  have t3 : s3.toks = s2.toks := by rw [← hs3]
  have h3 : s3.heap = s2.heap.push { cls := .type "list", data := .seq ([] : List Value).toArray } := by rw [← hs3]
  have gD : s3.heap.get? D = some { cls := .type "list", data := .seq ([] : List Value).toArray } := by
    rw [h3, ← hD]
    exact Heap.get?_push_size _ rfl
  have sz : ∀ b ∈ fp, b < s2.heap.objs.size := fun b hb => by
    obtain ⟨o, e, _⟩ := T.obj _ _ st2 b hb
    exact Heap.lt_size e
  have nDf : D ∉ fp := fun z => Nat.lt_irrefl _ (by have := sz D z; rw [hD] at this; exact this)
  have f3 : ∀ b ∈ D :: fp, FpOk X pins H2 b ∧ b < s3.heap.objs.size := fun b hb => by
    rcases List.mem_cons.mp hb with rfl | hb
    · exact ⟨I2.fpOk (Nat.le_of_eq hD) dn, Heap.lt_size gD⟩
    · exact ⟨f2 b hb, by rw [h3, Heap.size_push]; exact Nat.lt_succ_of_lt (sz b hb)⟩
  have st3 : tn 0 s3.heap := T.keep _ _ _ st2 fun b _ o e => by rw [h3]; exact Heap.get?_push_of_some _ e
  have I4 := block_start I3 ok hN f3
  have pg := hg s3 H2 s3.heap.objs.size (cellsFrom (s3.heap.objs.size + 1) scope.names (cloFrom X.env.cells scope.names [])) (D :: fp)
  have pe := he s3 H2 s3.heap.objs.size (cellsFrom (s3.heap.objs.size + 1) scope.names (cloFrom X.env.cells scope.names [])) (D :: fp)
  show codeAny _ _ (.compStart (.ListComp elt [⟨.Name kx px, iter, [], 0⟩] scope pos) 0 (.ref it) (.ref D) (compEnvC scope (cellsFrom (s3.heap.objs.size + 1) scope.names (cloFrom X.env.cells scope.names [])) s3.heap.objs.size X.env)) (compPost (model X.prog X.w) X.A X.xe none R (.ref D) s3.heap.objs.size) { s3 with heap := pushCells (s3.heap.push { cls := .type "dict", data := .dict #[] }) scope.names }
  generalize hce : compEnvC scope (cellsFrom (s3.heap.objs.size + 1) scope.names (cloFrom X.env.cells scope.names [])) s3.heap.objs.size X.env = ce at I4 pg pe ⊢
  have cL : ce.locals = s3.heap.objs.size := by subst hce; rfl
  have up3 : ∀ b o, s3.heap.get? b = some o → (pushCells (s3.heap.push { cls := .type "dict", data := .dict #[] }) scope.names).get? b = some o := fun b o e => pushCells_keeps _ _ _ _ (Heap.get?_push_of_some _ e)
  generalize hs4 : ({ s3 with heap := pushCells (s3.heap.push { cls := .type "dict", data := .dict #[] }) scope.names } : Shared) = s4 at I4 ⊢
  have t4 : s4.toks = s2.toks := by rw [← hs4]; exact t3
  have st4 : tn 0 s4.heap := T.keep _ _ _ st3 fun b _ o e => by rw [← hs4]; exact up3 b o e
  have gD4 : s4.heap.get? D = some { cls := .type "list", data := .seq ([] : List Value).toArray } := by rw [← hs4]; exact up3 _ _ gD
  have stat : ∀ {σ' : L2.St} {H' : Hp} {s' : Shared}, Inv (X.blk s3 H2 scope ce (D :: fp)) [] σ' H' s' → (∀ b ∈ D :: fp, H' b = none) → ∀ b ∈ D :: fp, FpOk (X.blk s3 H2 scope ce (D :: fp)) [] H' b := fun {σ' H' s'} I' hn b hb =>
    ⟨hn b hb, (I'.ok.exf b hb).1, I'.ok.exfs b hb, .inl hb, fun x c e => (I'.ok.exf b hb).2 x c e, fun p hp => absurd (show p ∈ ([] : List (Addr × Obj)) ++ [] from hp) (by simp)⟩
  have loop : codeAny (model X.prog X.w) X.A (.compLoop (.ListComp elt [⟨.Name kx px, iter, [], 0⟩] scope pos) 0 (.ref it) (.ref D) ce) (compPost (model X.prog X.w) X.A X.xe none R (.ref D) s3.heap.objs.size) s4 := by
    refine compLoop_any (fun m s' => ∃ i H' cs its nn, m = n - i ∧ i ≤ n ∧ Inv (X.blk s3 H2 scope ce (D :: fp)) [] (wipe σ (own.map (·.2))) H' s' ∧ tn i s'.heap ∧ (∀ b ∈ D :: fp, H' b = none) ∧ P i H' ∧ cs.length = i ∧ (∀ c ∈ cs, G c) ∧
      TkL (s.toks + 1) (s'.toks + 1) cs its ∧ s.toks ≤ s'.toks ∧ s'.heap.get? D = some { cls := .type "list", data := .seq its.toArray nn }) ?_ n
      ⟨0, H2, [], [], 0, (Nat.sub_zero _).symm, Nat.zero_le _, I4, st4, fun b hb => (f3 b hb).1.1, p0, rfl, (fun _ z => nomatch z), .nil (by omega), by omega, gD4⟩
    rintro m s5 ⟨i, H5, cs, its, nn, rfl, hi', I5, st5, n5, pi, hcs, hG, tk, ts, g5⟩
    have I5' : Inv (X.blk s3 H2 scope ce (D :: fp)) ([] ++ pinsAt [D] s5.heap) (wipe σ (own.map (·.2))) H5 s5 :=
      I5.pinned (fp := [D]) (fun b hb => stat I5 n5 b (by rw [List.mem_singleton.mp hb]; exact List.mem_cons_self)) fun b hb => by
        rw [List.mem_singleton.mp hb]
        exact ⟨_, g5, fun v z => nomatch z⟩
    have pinD : ∀ {pl : List (Addr × Obj)} {σ' : L2.St} {H' : Hp} {s' : Shared}, Inv (X.blk s3 H2 scope ce (D :: fp)) (([] ++ pinsAt [D] s5.heap) ++ pl) σ' H' s' → s'.heap.get? D = some { cls := .type "list", data := .seq its.toArray nn } ∧ H' D = none := fun J =>
      let z := J.pin (D, _) (List.mem_append_right _ (List.mem_append_left _ (List.mem_append_right _ (mem_pinsAt (List.mem_singleton.mpr rfl) g5))))
      ⟨z.1, z.2.1⟩
    have stat5 : ∀ {σ' : L2.St} {H' : Hp} {s' : Shared}, Inv (X.blk s3 H2 scope ce (D :: fp)) ([] ++ pinsAt [D] s5.heap) σ' H' s' → (∀ b ∈ fp, H' b = none) → ∀ b ∈ fp, FpOk (X.blk s3 H2 scope ce (D :: fp)) ([] ++ pinsAt [D] s5.heap) H' b := fun {σ' H' s'} I' hn' b hb => by
      have hb' : b ∈ D :: fp := List.mem_cons_of_mem _ hb
      refine ⟨hn' b hb, (I'.ok.exf b hb').1, I'.ok.exfs b hb', .inl hb', fun x c e => (I'.ok.exf b hb').2 x c e, fun p hp => ?_⟩
      have hp' : p ∈ pinsAt [D] s5.heap := by simpa using hp
      have e := (of_pinsAt hp').1
      rw [List.mem_singleton.mp e]
      exact fun z => nDf (z ▸ hb)
    by_cases hlt : i < n
    · have ti := T.item (X.blk s3 H2 scope ce (D :: fp)) rfl rfl rfl hc i _ s5 _ H5 (fun _ _ => False) I5' (stat5 I5' fun b hb => n5 b (List.mem_cons_of_mem _ hb)) st5 hlt
      refine thnF (tkE (Nat.le_refl s5.toks) ti) ?_
      rintro r s6 ⟨l6, u, rfl, h6⟩
      refine thnF (tkE l6 h6) ?_
      rintro _ s7 ⟨l7, x, H7, I7, r7, ⟨rfl, rfl⟩, st7, n7⟩
      have I7' := I7.pinned (stat5 I7 n7) (T.obj _ _ st7)
      refine thnF (tkE l7 (pg.run _ s7 _ H7 (V.int (0 + i)) u (fun σ' H' => σ' = (wipe σ (own.map (·.2))).set ik (some (.int (0 + i))) ∧ H' = H7) I7' r7 ⟨rfl, rfl⟩)) ?_
      rintro _ s8 ⟨l8, σ8, H8, I8, rfl, rfl⟩
      refine wpAny_tests_nil ?_
      simp only [if_true]
      refine thnF (pe.run _ s8 _ _ _ I8 (turn i _ hlt pi)) ?_
      rintro z s10 ⟨⟨yv, H10, I10, r10, c, rfl, gc, p10⟩, l10, xz, tz, rfl, lz1, lz2⟩
      have ec : xz = c := by
        obtain ⟨tq, eq⟩ := r10
        injection eq
      subst ec
      obtain ⟨gD10, dn10⟩ := pinD I10
      have its10 : its.toArray.size ≤ sizeLine := by
        have e := tk.vals.length
        rw [List.length_map] at e
        rw [List.size_toArray, sizeLine_eq]; omega
      refine append_at (hsz := its10) gD10 fun g sb hg' => ?_
      have keepfp : ∀ b ∈ fp, ∀ o, s7.heap.get? b = some o → s10.heap.get? b = some o ∧ H10 b = none := fun b hb o e =>
        let z := I10.pin (b, o) (List.mem_append_right _ (List.mem_append_right _ (mem_pinsAt hb e)))
        ⟨z.1, z.2.1⟩
      have hl : (wipe σ (own.map (·.2))).length = ((wipe σ (own.map (·.2))).set ik (some (V.int (0 + i)))).length := by simp
      have J10 : Inv (X.blk s3 H2 scope ce (D :: fp)) [] (wipe σ (own.map (·.2))) H10 s10 := by
        refine (((I10.unpinned).unpinned) : Inv (X.blk s3 H2 scope ce (D :: fp)) [] _ H10 s10).weak hl fun j v e => ?_
        obtain ⟨e1, e2⟩ := wipe_some e
        have nji : ik ≠ j := fun z => e2 (z ▸ hik)
        rw [List.getElem?_set_ne nji]
        exact e
      have fD := stat J10 (fun b hb => by
        rcases List.mem_cons.mp hb with rfl | hb
        · exact dn10
        · obtain ⟨o, e, _⟩ := T.obj _ _ st7 b hb
          exact (keepfp b hb o e).2) D List.mem_cons_self
      obtain ⟨f0, f1, f2', f3', f4, f5⟩ := fD
      have J11 : Inv (X.blk s3 H2 scope ce (D :: fp)) [] (wipe σ (own.map (·.2))) H10 { s10 with heap := g } := J10.turned (t' := s10.toks) (fun b o hb e => (sb.2 b hb).trans e) f0 f1 f3' f4 f5
      refine ⟨n - (i + 1), by omega, i + 1, H10, cs ++ [xz], its ++ [.str xz tz], nn + 1, rfl, hlt, J11, ?_, ?_, p10, ?_, ?_, ?_, ?_, ?_⟩
      · refine T.keep _ _ _ st7 fun b hb o e => ?_
        exact (sb.2 b (fun z => nDf (z ▸ hb))).trans (keepfp b hb o e).1
      · intro b hb
        rcases List.mem_cons.mp hb with rfl | hb
        · exact dn10
        · obtain ⟨o, e, _⟩ := T.obj _ _ st7 b hb
          exact (keepfp b hb o e).2
      · rw [List.length_append, hcs]; rfl
      · intro c' hc'
        rcases List.mem_append.mp hc' with h' | h'
        · exact hG c' h'
        · rw [List.mem_singleton.mp h']; exact gc
      · exact (tk.up (Nat.succ_le_succ l8)).snoc lz1 (Nat.lt_succ_of_lt lz2)
      · exact Nat.le_trans ts (Nat.le_trans l8 l10)
      · rw [hg']
        simp
    · have ein : i = n := by omega
      subst ein
      have td := T.done (X.blk s3 H2 scope ce (D :: fp)) rfl rfl rfl hc i _ s5 _ H5 (fun _ _ => False) I5' (stat5 I5' fun b hb => n5 b (List.mem_cons_of_mem _ hb)) st5 (Nat.le_refl _)
      refine thnF (tkE (Nat.le_refl s5.toks) td) ?_
      rintro r s6 ⟨l6, rfl, I6⟩
      obtain ⟨gD6, dn6⟩ := pinD (pl := []) (by simpa using I6)
      have I7 : Inv X pins σ H5 s6 := I3.call' (ch := D :: fp) I6.os I6.base I6.hok I6.bare fun b hb => ⟨(f3 b hb).1.2.2.2.1, (f3 b hb).1.2.1, (f3 b hb).1.2.2.2.2.1, (f3 b hb).1.2.2.2.2.2⟩
      have nC : H5 s3.heap.objs.size = none := by
        have z : H5 ce.locals = none := I6.free
        rw [cL] at z
        exact z
      obtain ⟨mm, hn', _⟩ := I6.loc
      have hn' : s6.heap.Ns ce.locals mm := hn'
      rw [cL] at hn'
      obtain ⟨f0, f1, f2', f3', f4, f5⟩ := I3.fpOk (H' := H5) (Nat.le_refl _) nC
      refine ⟨mm, hn', fun g sb => ?_⟩
      have neDC : D ≠ s3.heap.objs.size := Nat.ne_of_lt (Heap.lt_size gD)
      exact fin D cs its nn _ H5 (I7.turned (t' := s6.toks) (fun b o hb e => (sb.2 b hb).trans e) f0 f1 f3' f4 f5) pi hcs hG (tk.up (Nat.succ_le_succ l6)) (Nat.le_trans ts l6) ((sb.2 D neDC).trans gD6) dn6
  exact codeAny_compStart_list loop (T.self X.A 0 _ _ _ st4 loop)
end Pd

namespace Pd
open PySem PySem.Spec PyProof.Rows L2
/-! ### a def that gives a new text -/
def FnT (P : Program) (w : World) (K : PySem.W.Frag) (mg : Str → Option Value) (base : Heap) (CX : CXT) (k : Nat) (f : Addr) (sp : Sp) : Prop :=
  ∀ (A : Around) (outer : List Env) (s : Shared) (H : Hp) (us : List Value) (vs : List V) (Q : VK) (E : XK), Room k A → Env0 P w K mg base A outer s H → Vals vs us → sp vs H Q E →
    codeAny (model P w) A (.call (.ref f) ⟨us, []⟩) (fun r s' => CR CX outer P w H s Q E r s' ∧ ∀ u, r = .ok (.ret u) → s.toks ≤ s'.toks ∧ Frsh (s.toks + 1) s'.toks u) s
theorem FnT.fnR {P : Program} {w : World} {K : PySem.W.Frag} {mg : Str → Option Value} {base : Heap} {CX : CXT} {k : Nat} {f : Addr} {sp : Sp} (F : FnT P w K mg base CX k f sp) : FnR P w K mg base CX k f sp :=
  fun A outer s H us vs Q E hr e0 r h => codeAny_mono (F A outer s H us vs Q E hr e0 r h) fun _ _ z => z.1
theorem fnT_ret {P : Program} {w : World} {K : PySem.W.Frag} {mg : Str → Option Value} {base : Heap} {x qual : Str} {st : Stmt} {f : Addr} {fd : FuncData} {N ps : List Str} {k : Nat} {sp : Sp} {e : Expr} {rpos : Pos}
    (F : Fun K x qual st f fd) (S : FnScope N ps (defScope st)) (hst : defBody st = [.Return (some e) rpos])
    (hb : ∀ (kV doc pm : Value) (an : Option Addr) (cdv ct : Value) (us : List Value), us.length = ps.length → bindArgs (PySem.W.fnOf x qual (defArgs st) (defBody st) (defScope st) .none kV doc pm an cdv ct) ⟨us, []⟩ = pure (ps.zip us))
    (len : ∀ vs H Q E, sp vs H Q E → vs.length = ps.length)
    (hbody : ∀ (cdv : Value) (A : Around) (outer : List Env) (s : Shared) (H : Hp) (vs : List V) (Q : VK) (E : XK), Room k (A.deeper (envOfC qual (defScope st) s.heap.objs.size f cdv)) → sp vs H Q E →
      ∃ t, PEF (cxOf CX0 P w K mg base N qual (defScope st) f cdv A outer s H E) e t ∧ t (start N vs) H Q) : FnT P w K mg base CX0 (k + 1) f sp := by
  obtain ⟨oc, od, kV, doc, pm, an, cdv, ct, osl, rfl, lk, hcd⟩ := F.ex
  intro A outer s H us vs Q E hr e0 r hsp
  have hl : us.length = ps.length := r.length.symm.trans (len _ _ _ _ hsp)
  have KX : K.In s.heap := e0.mod.kin.keeps fun b o e => (e0.bs b o e).1
  have lim : s.heap.NoLimit := e0.mod.nolimit.keeps fun b o e => (e0.bs b o e).1
  have hkind : ∀ y ∈ ps.zip us, (defScope st).names.lookup y.1 = some .local ∨ ((defScope st).names.lookup y.1 = some .cell ∧ ((cellsFrom (s.heap.objs.size + 1) (defScope st).names []).lookup y.1).isSome = true) := fun y hy => by
    rcases S.par y.1 (List.of_mem_zip hy).1 with q | q
    · exact .inl q
    · exact .inr ⟨q, PySem.W.cellsFrom_some _ _ _ (.inl q)⟩
  refine codeAny_call_function hr.depth (KX _ _ lk) rfl S.co S.gen rfl (PySem.W.codeRec_of KX hcd) (BindsTo.of_eq (hb kV doc pm an cdv ct us hl) _ _ _ _ ?_)
  refine wpAny_mono (tkE (Nat.le_refl s.toks) (wpAny_newFunctionEnv_cells S.kind hkind fun env he s1 x => (⟨he, x⟩ : env = _ ∧ InCallC s _ _ _ _ s1))) ?_ fun _ _ z => z
  rintro env s1 ⟨ht, rfl, x⟩
  refine ⟨lim.keeps x.toInCall.keep, codeAny_func ?_⟩
  obtain ⟨t, he, hq⟩ := hbody cdv A outer s H vs Q E (hr.deeper _) hsp
  have I : Inv (cxOf CX0 P w K mg base N qual (defScope st) f cdv A outer s H E) [] (start N vs) H s1 := inv_start S hr.hd e0 (len _ _ _ _ hsp) r x
  rw [hst]
  refine wpAny_execs_cons (wpAny_Return_some (wpAny_mono (he.run [] s1 _ H Q I hq) ?_ fun e s' z => ?_))
  · rintro u s' ⟨⟨v, H', J, rv, q⟩, l1, xz, tz, rfl, l2, l3⟩
    refine ⟨⟨v, H', J.os, J.bare, J.base, J.hok, rv, q⟩, fun u' eu => ?_⟩
    injection eu with eu
    injection eu with eu
    subst eu
    exact ⟨Nat.le_trans ht l1, xz, tz, rfl, Nat.le_trans (Nat.succ_le_succ ht) l2, l3⟩
  · exact wpAny_mono z (fun _ s'' h => ⟨h, fun _ e => nomatch e⟩) fun _ s'' h => ⟨h, fun _ e => nomatch e⟩
theorem pef_call {X : Cx} {k : Nat} {f : Addr} {sp : Sp} {E : XK} {x : Str} {e : Expr} {es : List Expr} {t : TA} {p pos : Pos} {CX : CXT} (F : FnT X.prog X.w X.K X.mg X.base CX k f sp) (hr : Room k X.A) (hg : Gl X x) (hm : X.mg x = some (.ref f)) (hk : PySem.W.keepIn X.K (.ref f) = true)
    (hx : Passes CX X E) (ha : PA X (e :: es) t) (hdb : (x == ("__debug__" : Str)) = false := by decide) (he : starEach (e :: es) X.env = (false, eval e X.env) :: starEach es X.env := by rfl) (hpl : (backTo pos (starEach es X.env)).any (·.1) = false := by rfl) :
    PEF X (.Call (.Name x p) (e :: es) [] pos) (fun σ H Q => t σ H fun vs H1 => sp vs H1 Q E) := by
  constructor
  intro pins s σ H Q I h
  refine wpAny_Call_Name_kw (ld_glob I hg hm ?_ hdb)
  refine PySem.W.callWith_K (h₀ := X.base) I.ok.mod.kin hk (thn (tkE (Nat.le_refl s.toks) (ha.run pos pins s σ H _ I h)) ?_) he hpl
  rintro us s1 ⟨l1, vs, H1, I1, r, q⟩
  refine ⟨I1.kIn, wpAny_call (codeAny_mono (F X.A X.stack s1 H1 us vs Q E hr I1.env0 r q) fun r s' hq => ?_)⟩
  obtain ⟨hq, h2⟩ := hq
  cases r with
  | error e => exact hx pins σ H1 s1 e s' I1 hq
  | ok fl =>
    cases fl with
    | next => exact False.elim hq
    | brk => exact False.elim hq
    | cont => exact False.elim hq
    | ret u =>
      obtain ⟨l2, xz, tz, rfl, l3, l4⟩ := h2 u rfl
      exact ⟨I1.after hq, Nat.le_trans l1 l2, xz, tz, rfl, Nat.le_trans (Nat.succ_le_succ l1) l3, l4⟩
/-- x(e, ..) by a promise of its positional arguments -/
theorem pe_callR {X : Cx} {k : Nat} {f : Addr} {sp : Sp} {E : XK} {x : Str} {e : Expr} {es : List Expr} {t : TA} {p pos : Pos} {CX : CXT} (F : FnR X.prog X.w X.K X.mg X.base CX k f sp) (hr : Room k X.A) (hg : Gl X x) (hm : X.mg x = some (.ref f)) (hk : PySem.W.keepIn X.K (.ref f) = true)
    (hx : Passes CX X E) (ha : PA X (e :: es) t) (hdb : (x == ("__debug__" : Str)) = false := by decide) (he : starEach (e :: es) X.env = (false, eval e X.env) :: starEach es X.env := by rfl) (hpl : (backTo pos (starEach es X.env)).any (·.1) = false := by rfl) :
    PE X (.Call (.Name x p) (e :: es) [] pos) (fun σ H Q => t σ H fun vs H1 => sp vs H1 Q E) := by
  constructor
  intro pins s σ H Q I h
  refine wpAny_Call_Name_kw (ld_glob I hg hm ?_ hdb)
  refine PySem.W.callWith_K (h₀ := X.base) I.ok.mod.kin hk (thn (ha.run pos pins s σ H _ I h) ?_) he hpl
  rintro us s1 ⟨vs, H1, I1, r, q⟩
  exact ⟨I1.kIn, wpAny_call (run_fnR F hr hx I1 r q)⟩
end Pd

namespace Pd
open PySem PySem.Spec PyProof.Rows L2
/-! ### letter = ..; found = [letter, letter.upper(), .., ' ']; return found + [.. for k in range(..)] -/
def four (x1 x2 : Str) : List Str := [x1, Txt.upper x1, x2, " "]
def tSigns (z1 z2 : Str) (il ifd ik : Nat) (own : List Nat) (tb1 tb2 : TE) (ta : TA) (te : TE) : TS := fun D σ H => tItemC z1 tb1 σ H fun v1 H1 => ∃ x1 : Str, v1 = .str x1 ∧ x1.length ≤ 1000 ∧
  tItemC z2 tb2 (σ.set il (some (.str x1))) H1 fun v2 H2 => ∃ x2 : Str, v2 = .str x2 ∧ ∀ a H3, H2 a = none → (∃ o, H3 a = some (.frz o (.lst ((four x1 x2).map .str)))) → (∀ b, b ≠ a → H3 b = H2 b) →
    iRng1 ta ((σ.set il (some (.str x1))).set ifd (some (.ref a))) H3 fun J H4 => ∃ (n : Nat) (P : Nat → Hp → Prop) (G : Str → Prop), J = Itr 0 n ∧ n ≤ 1000 ∧ P 0 H4 ∧
      (∀ i H5, i < n → P i H5 → te ((wipe ((σ.set il (some (.str x1))).set ifd (some (.ref a))) own).set ik (some (.int (0 + i)))) H5 fun y H6 => ∃ c, y = .str c ∧ G c ∧ P (i + 1) H6) ∧
      ∀ cs H', P n H' → cs.length = n → (∀ c ∈ cs, G c) → H' a = H3 a ∧ ∀ p H4, H' p = none → TxtsAt H4 p (four x1 x2 ++ cs) → (∀ b, b ≠ p → H4 b = H' b) → D.rt (.ref p) H4
set_option maxHeartbeats 2000000 in
theorem pss_signs {X : Cx} {z1 z2 : Str} {il ifd ik : Nat} {lx fx kx : Str} {b1 b2 elt iter : Expr} {tb1 tb2 te : TE} {ta : TA} {scope : Scope} {own : List (Str × Nat)} {j1 j2 j3 : Nat}
    {a1 a2 c1 c2 c3 d1 d2 d3 d4 p1 p2 p3 q1 q2 q3 q4 q5 px pos : Pos} (hc : X.calm = true) (hN : X.N.Nodup) (hl : X.N[il]? = some lx) (hf : X.N[ifd]? = some fx) (n1 : il ≠ ifd)
    (ll : X.env.scope.names.lookup lx = some .local) (lf : X.env.scope.names.lookup fx = some .local) (h1 : PE X b1 tb1) (h2 : PE X b2 tb2) (s1 : PlainIxT b1) (s2 : PlainIxT b2)
    (hi : PI X (.Name kx px) iter (iRng1 ta)) (ok : BlkOk X.N X.env.scope scope own) (hik : ik ∈ own.map (·.2))
    (hg : ∀ (s : Shared) (H : Hp) (C : Addr) (cl : List (Str × Addr)) (fp : List Addr), PG (X.blk s H scope (compEnvC scope cl C X.env) fp) (.Name kx px) (gName ik))
    (he : ∀ (s : Shared) (H : Hp) (C : Addr) (cl : List (Str × Addr)) (fp : List Addr), PEF (X.blk s H scope (compEnvC scope cl C X.env) fp) elt te)
    (hs : ∀ x, foldedSetIterable iter X.env x = pure x) (dl : (lx == ("__debug__" : Str)) = false) (df : (fx == ("__debug__" : Str)) = false)
    (hs1 : swapsWith (.Subscript (.Constant (.str z1) j1 c1) b1 d1) (some (.Name lx a1)) p1.line X.env = pure false)
    (hs2 : swapsWith (.List [.Name lx q1, .Call (.Attribute (.Name lx q2) "upper" q3) [] [] q4, .Subscript (.Constant (.str z2) j2 c2) b2 d2, .Constant (.str " ") j3 c3] d3) (some (.Name fx a2)) p2.line X.env = pure false)
    (hst : starEach [.Name lx q1, .Call (.Attribute (.Name lx q2) "upper" q3) [] [] q4, .Subscript (.Constant (.str z2) j2 c2) b2 d2, .Constant (.str " ") j3 c3] X.env =
      [(false, eval (.Name lx q1) X.env), (false, eval (.Call (.Attribute (.Name lx q2) "upper" q3) [] [] q4) X.env), (false, eval (.Subscript (.Constant (.str z2) j2 c2) b2 d2) X.env), (false, eval (.Constant (.str " ") j3 c3) X.env)])
    (hbase : attributeBase (.Name lx q2) "upper" X.env (eval (.Name lx q2) X.env) = eval (.Name lx q2) X.env) (hline : (q3.endLine == q4.line) = true) :
    PSs X [.Assign [.Name lx a1] (.Subscript (.Constant (.str z1) j1 c1) b1 d1) p1,
      .Assign [.Name fx a2] (.List [.Name lx q1, .Call (.Attribute (.Name lx q2) "upper" q3) [] [] q4, .Subscript (.Constant (.str z2) j2 c2) b2 d2, .Constant (.str " ") j3 c3] d3) p2,
      .Return (some (.BinOp (.Name fx q5) .Add (.ListComp elt [⟨.Name kx px, iter, [], 0⟩] scope pos) d4)) p3] (tSigns z1 z2 il ifd ik (own.map (·.2)) tb1 tb2 ta te) := by
  constructor
  intro pins s σ H D I h
  refine wpAny_execs_cons (wpAny_Assign_Name (thn ((pef_item h1 s1).run pins s σ H _ I h) ?_) hs1)
  rintro u1 t1 ⟨⟨v1, H1, I1, r1, x1, rfl, hx1, h'⟩, l1, y1, k1, rfl, k1a, k1b⟩
  have e1 : y1 = x1 := by
    obtain ⟨tq, eq⟩ := r1
    injection eq
  subst e1
  refine store_raw (v := V.str y1) I1 hN hl ll r1 fun t2 I2 K2 _ l2 => ?_
  refine wpAny_execs_cons (wpAny_Assign_Name (wpAny_List_spliced ?_) hs2)
  rw [hst]
  show wpAny _ _ (spliced ((false, eval (.Name lx q1) X.env) :: (false, eval (.Call (.Attribute (.Name lx q2) "upper" q3) [] [] q4) X.env) :: (false, eval (.Subscript (.Constant (.str z2) j2 c2) b2 d2) X.env) :: [(false, eval (.Constant (.str " ") j3 c3) X.env)])) _ _ _
  refine Calls.spliced_cons (K2.load I2 (Calls.spliced_cons ?_) dl)
  refine PySem.Call_method0 hbase hline (K2.load I2 ?_ dl)
  refine ⟨"str", _, F.plainAttrs_str, F.slot_str_upper, F.type_str_upper, typeIs_str _ _ _, (fun _ e => nomatch e), Calls.callWith_builtin rfl (PySem.evalArgs_none ?_)⟩
  have fit : Builtin.Str.tooLong (Txt.upper y1).length = false := PyProof.Rows.short24 (by have := PyProof.Rows.len_upper y1; omega)
  refine PySem.SC.upper fit (Calls.spliced_cons ?_)
  refine thn ((pef_item h2 s2).run pins _ _ H1 _ (I2.tok _) h') ?_
  rintro u3 t3 ⟨⟨v2, H2, I3, r3, x2, rfl, hx2⟩, l3, y3, k3, rfl, k3a, k3b⟩
  have e3 : y3 = x2 := by
    obtain ⟨tq, eq⟩ := r3
    injection eq
  subst e3
  refine Calls.spliced_cons (Calls.Constant_str (Calls.spliced_nil ⟨by show 4 ≤ sizeLine; decide, ?_⟩))
  have lay : ∀ {o : Obj} {u : HO}, ObjOk X.prog X.w (upd H2 t3.heap.objs.size u) (t3.heap.push o) t3.heap.objs.size u → Inv X pins (σ.set il (some (V.str y1))) (upd H2 t3.heap.objs.size u) { t3 with heap := t3.heap.push o, toks := t3.toks + 1 } :=
    fun w => I3.laid (t' := t3.toks + 1) (fun b o q => Heap.get?_push_of_some _ q) (Nat.le_refl _) w
  have tk4 : TkL (s.toks + 1) (t3.toks + 1) (four y1 y3) [.str y1 k1, .str (Txt.upper y1) t2.toks, .str y3 k3, .str " " t3.toks] := by
    refine .cons (k := t2.toks) k1a (Nat.lt_of_lt_of_le k1b l2) (.cons (k := t2.toks + 1) (Nat.le_refl _) (Nat.lt_succ_self _) (.cons (k := t3.toks) ?_ k3b (.cons (k := t3.toks + 1) (Nat.le_refl _) (Nat.lt_succ_self _) (.nil (Nat.le_refl _)))))
    exact Nat.le_of_succ_le k3a
  have I4 := lay (o := { cls := .type "list", data := .seq [Value.str y1 k1, .str (Txt.upper y1) t2.toks, .str y3 k3, .str " " t3.toks].toArray }) (u := .frz { cls := .type "list", data := .seq [Value.str y1 k1, .str (Txt.upper y1) t2.toks, .str y3 k3, .str " " t3.toks].toArray } (.lst ((four y1 y3).map .str)))
    ⟨Heap.get?_push_size _ rfl, by show 4 ≤ sizeLine; decide, _, 0, tk4.vals, Heap.get?_push_size _ rfl⟩
  have new2 : H2 t3.heap.objs.size = none := I3.hok.fresh (Nat.le_refl _)
  have h3 := hx2 t3.heap.objs.size _ new2 ⟨_, upd_same⟩ fun b hb => upd_ne (o := .frz { cls := .type "list", data := .seq [Value.str y1 k1, .str (Txt.upper y1) t2.toks, .str y3 k3, .str " " t3.toks].toArray } (.lst ((four y1 y3).map .str))) hb
  generalize hA : t3.heap.objs.size = a at *
  generalize hO : ({ cls := .type "list", data := .seq [Value.str y1 k1, .str (Txt.upper y1) t2.toks, .str y3 k3, .str " " t3.toks].toArray } : Obj) = o4 at *
  refine store_raw (v := V.ref a) I4 hN hf lf rfl fun t5 I5 _ _ l5 => ?_
  refine wpAny_execs_cons (wpAny_Return_some (wpAny_BinOp ?_))
  have hlen : σ.length = X.N.length := I.len
  have lf1 : ifd < (σ.set il (some (V.str y1))).length := by rw [List.length_set, hlen]; exact (List.getElem?_eq_some_iff.mp hf).1
  refine name_ref hf lf I5 (List.getElem?_set_self lf1) ?_ df
  refine lcT hc hN I5 hi ok hik hg he hs h3 ?_
  rintro J H4 ⟨n, P, G, rfl, hn, p0, turn, fin⟩
  refine ⟨n, P, G, rfl, hn, p0, turn, ?_⟩
  intro D' cs its nn s' H' I' pn hcs hG tk ls gD nD
  obtain ⟨ha, fin2⟩ := fin cs H' pn hcs hG
  rw [upd_same] at ha
  obtain ⟨ga, _⟩ := I'.hok a _ ha
  subst hO
  refine PySem.P.add_list ga gD ?_ ?_
  · have ea : ([Value.str y1 k1, .str (Txt.upper y1) t2.toks, .str y3 k3, .str " " t3.toks].toArray ++ its.toArray) = ([Value.str y1 k1, .str (Txt.upper y1) t2.toks, .str y3 k3, .str " " t3.toks] ++ its).toArray := by simp
    rw [ea]
    have new' : H' s'.heap.objs.size = none := I'.hok.fresh (Nat.le_refl _)
    have tkA : TkL (s.toks + 1) (s'.toks + 1) (four y1 y3 ++ cs) ([Value.str y1 k1, .str (Txt.upper y1) t2.toks, .str y3 k3, .str " " t3.toks] ++ its) := (tk4.up (Nat.le_trans l5 (Nat.le_succ _))).app tk
    have len : (four y1 y3 ++ cs).length ≤ sizeLine := by
      rw [List.length_append, hcs, sizeLine_eq]; show 4 + n ≤ _; omega
    refine ⟨.ref s'.heap.objs.size, _, upd H' s'.heap.objs.size (.frz { cls := .type "list", data := .seq ([Value.str y1 k1, .str (Txt.upper y1) t2.toks, .str y3 k3, .str " " t3.toks] ++ its).toArray } (.lst ((four y1 y3 ++ cs).map .str))),
      I'.laid (t' := s'.toks) (fun b o q => Heap.get?_push_of_some _ q) (Nat.le_refl _) ⟨Heap.get?_push_size _ rfl, by rw [List.length_map]; exact len, _, 0, tkA.vals, Heap.get?_push_size _ rfl⟩, rfl, ?_⟩
    exact fin2 _ _ new' ⟨_, 0, _, _, upd_same, tkA, by omega⟩ fun b hb => upd_ne hb
  · have e := tk.vals.length
    rw [List.length_map, hcs] at e
    rw [List.size_toArray, List.size_toArray, ← e]
    show 4 + n ≤ sizeLine
    rw [sizeLine_eq]; omega
end Pd

namespace Pd
open PySem PySem.Spec PyProof.Rows L2
/-! ### an instance called with keywords alone -/
theorem callO_kw {M : Model} {A : Around} {E : Value → Shared → Prop} {s : Shared} {a : Addr} {pos : Pos} {Q : Value → Shared → Prop} {args : List (Bool × Sem Value)} {kws : List (Option Str × Sem Value)} (hplain : (args.any (·.1) || kws.any (·.1.isNone)) = false)
    (h : wpAny M A (evalArgs (.ref a) true args kws) (fun z s1 => (∃ C ox od, PySem.W.InstAt s1.heap a ox C od ∧ ox.data = .plain) ∧ wpAny M A (call (.ref a) ([] ++ z.pos) z.kw) Q E s1) E s) : wpAny M A (callWith pos (.ref a) [] args kws) Q E s := by
  unfold callWith
  refine wpAny_bind (wpAny_holding (wpAny_mono h ?_ fun _ _ y => y))
  rintro z s1 ⟨⟨C, ox, od, J, hd⟩, h1⟩
  refine wpAny_bind (wpAny_standAt ?_)
  simp only [hplain]
  refine wpAny_bind ((PySem.W.kco_keeper (M := M) J hd).here ?_)
  refine wpAny_bind (wpAny_mono (wpAny_operateT h1) ?_ fun _ _ y => y)
  exact fun r s2 hr => wpAny_bind (wpAny_holding (wpAny_point (wpAny_pure hr)))
def tCallOK (X : Cx) (C : Addr) (m : Nat) (sp : Sp) (gV : List V → List V → List V) (E : XK) (tf : TE) (tk : TA) : TE := fun σ H Q => tf σ H fun y H1 => ∃ a, y = V.ref a ∧ tk σ H1 fun zs H2 => zs.length = m ∧ StX.InsC X H2 a C ∧ sp (gV [V.ref a] zs) H2 Q E
theorem pe_callOK {X : Cx} {CX : CXT} {k : Nat} {C g : Addr} {fd : FuncData} {ps ks : List Str} {sp : Sp} {E : XK} {fe : Expr} {tf : TE} {pos : Pos} {kws : List Keyword} {tk : TA} {gv : List Value → List Value → List Value} {gV : List V → List V → List V}
    (hf : PE X fe tf) (c : StX.CallO X.K C g) (F : FnOk X.prog X.w X.K X.mg X.base CX k g fd ps sp) (hr : Room k X.A) (hb : KBn X.K fd ps 1 ks gv gV) (hx : Passes CX X E) (hkw : PK X kws tk)
    (ht : eval (.Call fe [] kws pos) X.env = (do callWith pos (← eval fe X.env) [] (backTo pos (starEach [] X.env)) (backToKw pos (keywordEach kws X.env))) := by rfl)
    (hall : (backToKw pos (keywordEach kws X.env)).all (·.1.isSome) = true := by rfl) (hks : (backToKw pos (keywordEach kws X.env)).filterMap (·.1) = ks := by rfl)
    (hpl : ((backTo pos (starEach [] X.env)).any (·.1) || (backToKw pos (keywordEach kws X.env)).any (·.1.isNone)) = false := by rfl) : PE X (.Call fe [] kws pos) (tCallOK X C ks.length sp gV E tf tk) := by
  constructor
  intro pins s σ H Q I h
  rw [ht]
  refine wpAny_bind (thn (hf.run pins s σ H _ I h) ?_)
  rintro u s1 ⟨y, H1, I1, ry, a, rfl, q⟩
  obtain rfl : u = Value.ref a := ry
  refine callO_kw hpl (evalArgs_kw2_nil hall (thn (hkw.run pos pins s1 σ H1 _ I1 q) ?_))
  rintro ws s2 ⟨zs, H2, I2, rz, l2, hi, q2⟩
  obtain ⟨ox, od, J, hd⟩ := StX.insC_at I2 hi
  refine ⟨⟨C, ox, od, J, hd⟩, ?_⟩
  rw [hks]
  have r2 := hb.rel (vs := [V.ref a]) (us := [Value.ref a]) (.cons rfl .nil) rz
  refine wpAny_call (PySem.W.kco_code (a := ⟨[] ++ [], ks.zip ws⟩) I2.kIn J hd c.at_ c.fn c.fi (codeAny_mono (F.run X.A X.stack s2 H2 ⟨[Value.ref a], ks.zip ws⟩ _ _ Q E hr I2.env0 (hb.to s2 _ ws I2.kIn rfl (rz.length.symm.trans l2)) r2 q2) ?_))
  intro r s' hq
  cases r with
  | error e => exact hx pins σ H2 s2 e s' I2 hq
  | ok fl =>
    cases fl with
    | ret u => exact I2.after hq
    | next => exact False.elim hq
    | brk => exact False.elim hq
    | cont => exact False.elim hq
end Pd

namespace Pd
open SX
/-! ### the document's steps, on lists of signs -/
/-- the signs that texts may have -/
def CH : List Nat := [97, 98, 99, 100, 101, 102, 103, 104, 105, 106, 107, 108, 109, 110, 111, 112, 113, 114, 115, 116, 117, 118, 119, 120, 121, 122,
  65, 66, 67, 68, 69, 70, 71, 72, 73, 74, 75, 76, 77, 78, 79, 80, 81, 82, 83, 84, 85, 86, 87, 88, 89, 90, 48, 49, 50, 51, 52, 53, 54, 55, 56, 57, 32, 45, 46, 95, 47, 39]
inductive Stp where
  | low | swap (a b : Nat) | drop (cs : List Nat) | lead (a : Nat) | once (a : Nat) | cut (n : Nat)
def lowC (c : Nat) : Nat := if 65 ≤ c ∧ c ≤ 90 then c + 32 else c
def swapC (a b c : Nat) : Nat := if c = a then b else c
def keepAt (a : Nat) (l : List Nat) (i : Nat) : Bool := decide (l.getD i 0 ≠ a) || decide (i = 0) || decide (l.getD (i - 1) 0 ≠ a)
def onceN (a : Nat) (l : List Nat) : Nat → List Nat
  | 0 => []
  | i + 1 => onceN a l i ++ (if keepAt a l i = true then [l.getD i 0] else [])
def onceL (a : Nat) (l : List Nat) : List Nat := onceN a l l.length
def mk : Stp → List Nat → List Nat
  | .low, l => l.map lowC
  | .swap a b, l => l.map (swapC a b)
  | .drop cs, l => l.filter (fun c => decide (c ∉ cs))
  | .lead a, l => l.dropWhile (fun c => decide (c = a))
  | .once a, l => onceL a l
  | .cut n, l => l.take n
/-- a step that the document allows -/
def Stp.ok : Stp → Prop
  | .low => True
  | .swap a b => a ∈ CH ∧ b ∈ CH
  | .drop cs => 1 ≤ cs.length ∧ cs.length ≤ 10 ∧ cs.Nodup ∧ ∀ c ∈ cs, c ∈ CH
  | .lead a => a ∈ CH
  | .once a => a ∈ CH
  | .cut n => 1 ≤ n ∧ n ≤ 9
/-- a text that the document allows -/
def Good (l : List Nat) : Prop := (∀ c ∈ l, c ∈ CH) ∧ l.length ≤ 60
theorem onceN_mem {a : Nat} {l : List Nat} : ∀ {i : Nat}, i ≤ l.length → ∀ c ∈ onceN a l i, c ∈ l
  | 0, _, c, h => nomatch h
  | i + 1, hi, c, h => by
    rw [onceN] at h
    rcases List.mem_append.mp h with h | h
    · exact onceN_mem (Nat.le_of_succ_le hi) c h
    · split at h
      · rw [List.mem_singleton.mp h]
        have e : l.getD i 0 = l[i] := by
          have e2 : l[i]? = some l[i] := List.getElem?_eq_getElem (by omega)
          simp only [List.getD, e2, Option.getD_some]
        rw [e]; exact List.getElem_mem _
      · exact nomatch h
theorem onceN_len {a : Nat} {l : List Nat} : ∀ i : Nat, (onceN a l i).length ≤ i
  | 0 => Nat.le_refl _
  | i + 1 => by
    rw [onceN, List.length_append]
    have := onceN_len (a := a) (l := l) i
    split <;> simp <;> omega
/-- the last one that is kept -/
theorem onceN_last {a : Nat} {l : List Nat} : ∀ i : Nat, (onceN a l i).getLast? = some a ↔ (0 < i ∧ l.getD (i - 1) 0 = a)
  | 0 => by simp [onceN]
  | i + 1 => by
    have ih := onceN_last (a := a) (l := l) i
    rw [onceN]
    by_cases k : keepAt a l i = true
    · rw [if_pos k, List.getLast?_concat]
      simp
    · rw [if_neg k, List.append_nil, ih]
      have k' : keepAt a l i = false := by simpa using k
      simp only [keepAt, Bool.or_eq_false_iff, decide_eq_false_iff_not, Decidable.not_not] at k'
      obtain ⟨⟨h1, h2⟩, h3⟩ := k'
      simp only [Nat.add_sub_cancel]
      exact ⟨fun _ => ⟨by omega, h1⟩, fun _ => ⟨by omega, h3⟩⟩
/-- no two of a side by side -/
def NoAdj (a : Nat) (m : List Nat) : Prop := ∀ i, 0 < i → i < m.length → ¬ (m.getD i 0 = a ∧ m.getD (i - 1) 0 = a)
theorem noAdj_snoc {a c : Nat} {m : List Nat} (h : NoAdj a m) (hc : ¬ (c = a ∧ m.getLast? = some a)) : NoAdj a (m ++ [c]) := by
  intro i h0 hi
  rw [List.length_append] at hi
  simp at hi
  by_cases e : i = m.length
  · subst e
    rintro ⟨h1, h2⟩
    have e1 : (m ++ [c]).getD m.length 0 = c := by simp [List.getD]
    have e2 : (m ++ [c]).getD (m.length - 1) 0 = m.getD (m.length - 1) 0 := by
      simp only [List.getD, List.getElem?_append_left (show m.length - 1 < m.length by omega)]
    rw [e1] at h1
    rw [e2] at h2
    refine hc ⟨h1, ?_⟩
    rw [List.getLast?_eq_getElem?]
    have : m[m.length - 1]? = some m[m.length - 1] := List.getElem?_eq_getElem (by omega)
    rw [this]
    simp only [List.getD, this, Option.getD_some] at h2
    rw [h2]
  · have hi' : i < m.length := by omega
    have e1 : (m ++ [c]).getD i 0 = m.getD i 0 := by simp only [List.getD, List.getElem?_append_left hi']
    have e2 : (m ++ [c]).getD (i - 1) 0 = m.getD (i - 1) 0 := by simp only [List.getD, List.getElem?_append_left (show i - 1 < m.length by omega)]
    rw [e1, e2]
    exact h i h0 hi'
theorem onceN_noAdj {a : Nat} {l : List Nat} : ∀ i : Nat, NoAdj a (onceN a l i)
  | 0 => fun i _ hi => by simp [onceN] at hi
  | i + 1 => by
    rw [onceN]
    by_cases k : keepAt a l i = true
    · rw [if_pos k]
      refine noAdj_snoc (onceN_noAdj i) ?_
      rintro ⟨h1, h2⟩
      rw [onceN_last] at h2
      simp only [keepAt, Bool.or_eq_true, decide_eq_true_eq] at k
      rcases k with (k | k) | k
      · exact k h1
      · omega
      · exact k h2.2
    · rw [if_neg k, List.append_nil]
      exact onceN_noAdj i
theorem onceN_id {a : Nat} {m : List Nat} (h : NoAdj a m) : ∀ i : Nat, i ≤ m.length → onceN a m i = m.take i
  | 0, _ => by simp [onceN]
  | i + 1, hi => by
    have k : keepAt a m i = true := by
      simp only [keepAt, Bool.or_eq_true, decide_eq_true_eq]
      by_cases h0 : i = 0
      · exact .inl (.inr h0)
      · by_cases h1 : m.getD i 0 = a
        · exact .inr fun h2 => h i (by omega) hi ⟨h1, h2⟩
        · exact .inl (.inl h1)
    rw [onceN, onceN_id h i (by omega), if_pos k, List.take_succ]
    have : m[i]? = some m[i] := List.getElem?_eq_getElem hi
    simp only [List.getD, this, Option.getD_some, Option.toList_some]
theorem onceL_idem (a : Nat) (l : List Nat) : onceL a (onceL a l) = onceL a l := by
  show onceN a (onceL a l) (onceL a l).length = _
  have h := onceN_id (m := onceL a l) (onceN_noAdj _) _ (Nat.le_refl _)
  rw [h, List.take_length]
theorem lowC_lowC (c : Nat) : lowC (lowC c) = lowC c := by
  unfold lowC
  split
  · split <;> omega
  · rfl
theorem dropWhile_idem (p : Nat → Bool) : ∀ l : List Nat, (l.dropWhile p).dropWhile p = l.dropWhile p
  | [] => rfl
  | c :: r => by
    by_cases h : p c = true
    · rw [List.dropWhile_cons_of_pos h]; exact dropWhile_idem p r
    · rw [List.dropWhile_cons_of_neg h, List.dropWhile_cons_of_neg h]
/-- a step changes nothing of what it made -/
theorem mk_idem (st : Stp) (l : List Nat) : mk st (mk st l) = mk st l := by
  cases st with
  | low => show (l.map lowC).map lowC = l.map lowC; rw [List.map_map]; exact List.map_congr_left fun c _ => lowC_lowC c
  | swap a b =>
    show (l.map (swapC a b)).map (swapC a b) = l.map (swapC a b)
    rw [List.map_map]
    refine List.map_congr_left fun c _ => ?_
    show swapC a b (swapC a b c) = swapC a b c
    unfold swapC
    by_cases h : c = a
    · simp [h]
    · simp [h]
  | drop cs => show (l.filter _).filter _ = l.filter _; rw [List.filter_filter]; exact List.filter_congr fun c _ => Bool.and_self _
  | lead a => exact dropWhile_idem _ l
  | once a => exact onceL_idem a l
  | cut n => show (l.take n).take n = l.take n; rw [List.take_take, Nat.min_self]
theorem mk_len (st : Stp) (l : List Nat) : (mk st l).length ≤ l.length := by
  cases st with
  | low => exact Nat.le_of_eq (List.length_map _)
  | swap a b => exact Nat.le_of_eq (List.length_map _)
  | drop cs => exact List.length_filter_le _ _
  | lead a => exact (List.dropWhile_suffix _).length_le
  | once a => exact onceN_len _
  | cut n => exact List.length_take_le' _ _
theorem low_CH : ∀ c ∈ CH, lowC c ∈ CH := by decide
theorem mk_CH {st : Stp} {l : List Nat} (hs : st.ok) (h : ∀ c ∈ l, c ∈ CH) : ∀ c ∈ mk st l, c ∈ CH := by
  intro c hc
  cases st with
  | low => obtain ⟨d, hd, rfl⟩ := List.mem_map.mp hc; exact low_CH d (h d hd)
  | swap a b =>
    obtain ⟨d, hd, rfl⟩ := List.mem_map.mp hc
    unfold swapC
    split
    · exact hs.2
    · exact h d hd
  | drop cs => exact h c (List.mem_filter.mp hc).1
  | lead a => exact h c ((List.dropWhile_suffix _).subset hc)
  | once a => exact h c (onceN_mem (Nat.le_refl _) c hc)
  | cut n => exact h c (List.mem_of_mem_take hc)
theorem mk_good {st : Stp} {l : List Nat} (hs : st.ok) (h : Good l) : Good (mk st l) := ⟨mk_CH hs h.1, Nat.le_trans (mk_len st l) h.2⟩
theorem CH_lt : ∀ c ∈ CH, c < 128 := by decide
theorem CH_len : CH.length = 68 := rfl
theorem CH_nodup : CH.Nodup := by decide
end Pd

namespace Pd
open PySem PySem.Spec PyProof.Rows L2
/-! ### the operators of an own class: +, in, not in -/
section
variable {X : Cx} {CX : CXT} {C g : Addr} {n : Nat} {sp : Sp} {E : XK}
def rAddOwn (C : Addr) (sp : Sp) (E : XK) : R2 := fun x y H Q => ∃ a dx fs b dy gs, x = .ref a ∧ y = .ref b ∧ H a = some (.ins C dx fs) ∧ H b = some (.ins C dy gs) ∧ sp [.ref a, .ref b] H Q E
theorem op_addOwn (hc : PySem.W.selfFirst X.K C = true) (hs : PySem.W.findIn X.K (.ref C) "__add__" = some (some (.ref g))) (hf : PySem.W.isFn X.K (.ref g) = true) (F : FnR X.prog X.w X.K X.mg X.base CX n g sp) (hr : Room n X.A) (hx : Passes CX X E) :
    OpR X (binaryOp .Add) (rAddOwn C sp E) := by
  intro pins s σ H x y v u Q I rx ry h
  obtain ⟨a, dx, fs, b, dy, gs, rfl, rfl, ha, hb, q⟩ := h
  cases (show v = Value.ref a from rx)
  cases (show u = Value.ref b from ry)
  obtain ⟨mA, J, _⟩ := ins_get I.hok ha
  obtain ⟨mB, J', _⟩ := ins_get I.hok hb
  obtain ⟨od, J, _⟩ := J.look
  obtain ⟨od', J', _⟩ := J'.look
  obtain ⟨m, hF⟩ := I.fr
  refine PySem.W.binop_K (op := .Add) hF I.ok.mod.kin J J'.type hc hs hf ?_
  refine wpAny_mono (wpAny_call (run_fnR (us := [.ref a, .ref b]) (vs := [.ref a, .ref b]) F hr hx I (.cons rfl (.cons rfl .nil)) q)) (fun w s' z => ?_) fun _ _ x => x
  obtain ⟨z', H', I', rz, qz⟩ := z
  exact SlX.cmpback rz ⟨z', H', I', rz, qz⟩
def rInOwn (C : Addr) (k : Bool → Bool) (sp : Sp) (E : XK) : R2 := fun x y H Q => ∃ a dx fs, y = .ref a ∧ H a = some (.ins C dx fs) ∧ sp [.ref a, x] H (fun z H' => ∃ b, z = .bl b ∧ Q (.bl (k b)) H') E
theorem op_inOwn (hs : PySem.W.findIn X.K (.ref C) "__contains__" = some (some (.ref g))) (hf : PySem.W.isFn X.K (.ref g) = true) (F : FnR X.prog X.w X.K X.mg X.base CX n g sp) (hr : Room n X.A) (hx : Passes CX X E) :
    OpR X (compareOp .In) (rInOwn C (fun b => b) sp E) := by
  intro pins s σ H x y v u Q I rx ry h
  obtain ⟨a, dx, fs, rfl, ha, q⟩ := h
  cases (show u = Value.ref a from ry)
  obtain ⟨mA, J, _⟩ := ins_get I.hok ha
  obtain ⟨od, J, _⟩ := J.look
  obtain ⟨m, hF⟩ := I.fr
  refine PySem.W.in_K hF I.ok.mod.kin J hs hf ?_
  refine wpAny_mono (wpAny_call (run_fnR (us := [.ref a, v]) (vs := [.ref a, x]) F hr hx I (.cons rfl (.cons rx .nil)) q)) (fun w s' z => ?_) fun _ _ x => x
  obtain ⟨z', H', I', rz, b, rfl, qz⟩ := z
  cases (show w = Value.bool b from rz)
  exact wpAny_truthy_bool ⟨.bl b, H', I', rfl, qz⟩
theorem op_notInOwn (hs : PySem.W.findIn X.K (.ref C) "__contains__" = some (some (.ref g))) (hf : PySem.W.isFn X.K (.ref g) = true) (F : FnR X.prog X.w X.K X.mg X.base CX n g sp) (hr : Room n X.A) (hx : Passes CX X E) :
    OpR X (compareOp .NotIn) (rInOwn C (fun b => !b) sp E) := by
  intro pins s σ H x y v u Q I rx ry h
  obtain ⟨a, dx, fs, rfl, ha, q⟩ := h
  cases (show u = Value.ref a from ry)
  obtain ⟨mA, J, _⟩ := ins_get I.hok ha
  obtain ⟨od, J, _⟩ := J.look
  obtain ⟨m, hF⟩ := I.fr
  refine PySem.W.notIn_K hF I.ok.mod.kin J hs hf ?_
  refine wpAny_mono (wpAny_call (run_fnR (us := [.ref a, v]) (vs := [.ref a, x]) F hr hx I (.cons rfl (.cons rx .nil)) q)) (fun w s' z => ?_) fun _ _ x => x
  obtain ⟨z', H', I', rz, b, rfl, qz⟩ := z
  cases (show w = Value.bool b from rz)
  exact wpAny_truthy_bool ⟨.bl (!b), H', I', rfl, qz⟩
end
end Pd

namespace Pd
open PySem PySem.Spec PyProof.Rows L2
/-! ### an instance called where it may raise, in a try -/
def InsP (H : Hp) (a C : Addr) : Prop := (∃ dx vs, SlX.Slt H a C dx vs) ∨ ∃ dx fs, H a = some (.ins C dx fs)
def tCallOS (C : Addr) (sp : Sp) (E : L2.St → XK) (tf : TE) (t : TA) : TE := fun σ H Q => tf σ H fun y H1 => ∃ a, y = V.ref a ∧ t σ H1 fun vs H2 => InsP H2 a C ∧ sp (V.ref a :: vs) H2 Q (E σ)
theorem pe_callOS {X : Cx} {CX : CXT} {k : Nat} {C g : Addr} {sp : Sp} {E : L2.St → XK} {fe e : Expr} {es : List Expr} {tf : TE} {t : TA} {pos : Pos} (hf : PE X fe tf) (c : StX.CallO X.K C g) (F : FnR X.prog X.w X.K X.mg X.base CX k g sp) (hr : Room k X.A) (hx : ∀ σ, PassesAt CX X σ (E σ)) (ha : PA X (e :: es) t)
    (ht : eval (.Call fe (e :: es) [] pos) X.env = (do callWith pos (← eval fe X.env) [] (backTo pos (starEach (e :: es) X.env)) (backToKw pos (keywordEach [] X.env))) := by rfl)
    (he : starEach (e :: es) X.env = (false, eval e X.env) :: starEach es X.env := by rfl) (hpl : (backTo pos (starEach es X.env)).any (·.1) = false := by rfl) : PE X (.Call fe (e :: es) [] pos) (tCallOS C sp E tf t) := by
  constructor
  intro pins s σ H Q I h
  refine Call_ (thn (hf.run pins s σ H _ I h) fun u s1 ⟨y, H1, I1, ry, a, ey, q⟩ => ?_) ht
  subst ey
  obtain rfl : u = Value.ref a := ry
  refine StX.callO_with (thn (ha.run pos pins s1 σ H1 _ I1 q) fun us s2 ⟨vs, H2, I2, r, hi, q2⟩ => ?_) he hpl
  obtain ⟨ox, od, J, hd⟩ := StX.insC_at I2 (show StX.InsC X H2 a C from hi)
  refine ⟨⟨C, ox, od, J, hd⟩, wpAny_call (PySem.W.kco_code I2.kIn J hd c.at_ c.fn c.fi (codeAny_mono (F X.A X.stack s2 H2 (.ref a :: us) (.ref a :: vs) Q (E σ) hr I2.env0 (.cons rfl r) q2) ?_))⟩
  intro r s' hq
  cases r with
  | error e => exact hx σ pins H2 s2 e s' I2 hq
  | ok fl =>
    cases fl with
    | ret u => exact I2.after hq
    | next => exact False.elim hq
    | brk => exact False.elim hq
    | cont => exact False.elim hq
end Pd

namespace Pd
open PySem PySem.Spec PyProof.Rows L2
/-- list(text): some list -/
theorem call_listStr {X : Cx} (hc : X.calm = true) : CallR X (.type "list") (fun xs H Q => ∃ x : Str, xs = [.str x] ∧ x.cps.size ≤ 1000 ∧ ∀ p ys, H p = none → Q (.ref p) (upd H p (.lst ys))) := by
  intro pins s σ H xs us Q I r h
  obtain ⟨x, rfl, hz, q⟩ := h
  obtain ⟨u, rfl, t, rfl⟩ := vals1 r
  refine PySem.call_list_str (hn := by rw [sizeLine_eq]; omega) (I.ok.hd hc) x t fun h' tk acc c hk hS hacc => ?_
  have key : ∃ ys : List V, Vals ys acc.toList ∧ ys.length = x.cps.size := by
    have hsz : acc.size = x.cps.size := hacc.1
    have all : ∀ u ∈ acc.toList, ∃ v : V, RelV v u := fun u hu => by
      obtain ⟨i, hi, e⟩ := List.getElem_of_mem hu
      have hi' : i < acc.size := by simpa using hi
      obtain ⟨c', t', _, e2⟩ := hacc.2 i u (by rw [← e]; simp [hi'])
      exact ⟨.str ⟨#[c']⟩, t', e2⟩
    have mk : ∀ l : List Value, (∀ u ∈ l, ∃ v : V, RelV v u) → ∃ ys : List V, Vals ys l := by
      intro l
      induction l with
      | nil => exact fun _ => ⟨[], .nil⟩
      | cons u l ih =>
        intro h
        obtain ⟨v, hv⟩ := h u (List.mem_cons_self ..)
        obtain ⟨ys, hys⟩ := ih fun w hw => h w (List.mem_cons_of_mem _ hw)
        exact ⟨v :: ys, .cons hv hys⟩
    obtain ⟨ys, hys⟩ := mk _ all
    exact ⟨ys, hys, by rw [hys.length, Array.length_toList, hsz]⟩
  obtain ⟨ys, hys, hl⟩ := key
  have new : H s.heap.objs.size = none := I.hok.fresh (Nat.le_refl _)
  refine ⟨.ref s.heap.objs.size, upd H s.heap.objs.size (.lst ys), I.laid (t' := tk) (fun b o e => hk b o e) (Nat.le_refl _) ?_, rfl, q _ _ new⟩
  exact ⟨by rw [hl, sizeLine_eq]; omega, acc.toList, c, hys, by simpa using hS⟩
end Pd

set_option maxHeartbeats 2000000
namespace Pd
open PySem PySem.Spec PyProof.Rows L2
/-! ### rules that hold where at least n tokens are out -/
section
variable {α : Type} {M : Model} {A : Around} {E : Value → Shared → Prop} {s : Shared}
theorem thk {t : Sem α} {Q Q' : α → Shared → Prop} {n : Nat} (l : n ≤ s.toks) (h : wpAny M A t Q E s) (k : ∀ a s', n ≤ s'.toks → Q a s' → Q' a s') : wpAny M A t Q' E s :=
  thn (tkE l h) fun a s' z => k a s' z.1 z.2
end
structure PEn (n : Nat) (X : Cx) (e : Expr) (t : TE) : Prop where
  run : ∀ (pins : List (Addr × Obj)) (s : Shared) (σ : L2.St) (H : Hp) (Q : VK), n ≤ s.toks → Inv X pins σ H s → t σ H Q → wpAny (model X.prog X.w) X.A (eval e X.env) (EP X pins σ Q) X.xe s
structure PTn (n : Nat) (X : Cx) (e : Expr) (t : TT) : Prop where
  run : ∀ (pins : List (Addr × Obj)) (s : Shared) (σ : L2.St) (H : Hp) (Q : Bool → Hp → Prop), n ≤ s.toks → Inv X pins σ H s → t σ H Q → wpAny (model X.prog X.w) X.A (isTrue e X.env (eval e X.env)) (TP X pins σ Q) X.xe s
structure PAn (n : Nat) (X : Cx) (es : List Expr) (t : TA) : Prop where
  run : ∀ (pos : Pos) (pins : List (Addr × Obj)) (s : Shared) (σ : L2.St) (H : Hp) (Q : List V → Hp → Prop), n ≤ s.toks → Inv X pins σ H s → t σ H Q → wpAny (model X.prog X.w) X.A (spliced (backTo pos (starEach es X.env))) (AP X pins σ Q) X.xe s
structure PSn (n : Nat) (X : Cx) (st : Stmt) (t : TS) : Prop where
  run : ∀ (pins : List (Addr × Obj)) (s : Shared) (σ : L2.St) (H : Hp) (D : Ends), n ≤ s.toks → Inv X pins σ H s → t D σ H → wpAny (model X.prog X.w) X.A (exec st X.env) (SP X pins D) X.xe s
structure PSsn (n : Nat) (X : Cx) (sts : List Stmt) (t : TS) : Prop where
  run : ∀ (pins : List (Addr × Obj)) (s : Shared) (σ : L2.St) (H : Hp) (D : Ends), n ≤ s.toks → Inv X pins σ H s → t D σ H → wpAny (model X.prog X.w) X.A (execs sts X.env) (SP X pins D) X.xe s
/-- a def that may be called where n tokens are out -/
def FnN (n : Nat) (P : Program) (w : World) (K : PySem.W.Frag) (mg : Str → Option Value) (base : Heap) (k : Nat) (f : Addr) (sp : Sp) : Prop :=
  ∀ (A : Around) (outer : List Env) (s : Shared) (H : Hp) (us : List Value) (vs : List V) (Q : VK) (E : XK), n ≤ s.toks → Room k A → Env0 P w K mg base A outer s H → Vals vs us → sp vs H Q E →
    codeAny (model P w) A (.call (.ref f) ⟨us, []⟩) (CR CX0 outer P w H s Q E) s
section
variable {X : Cx} {n : Nat} {e a b c : Expr} {es : List Expr} {te ta tb : TE} {tl : TA} {t u v : TS} {tt tu : TT} {st : Stmt} {rest : List Stmt} {pos p : Pos}
theorem pen (h : PE X e te) : PEn n X e te := ⟨fun pins s σ H Q _ I q => h.run pins s σ H Q I q⟩
theorem ptn (h : PT X e tt) : PTn n X e tt := ⟨fun pins s σ H Q _ I q => h.run pins s σ H Q I q⟩
theorem pan (h : PA X es tl) : PAn n X es tl := ⟨fun pos pins s σ H Q _ I q => h.run pos pins s σ H Q I q⟩
theorem psn (h : PS X st t) : PSn n X st t := ⟨fun pins s σ H D _ I q => h.run pins s σ H D I q⟩
theorem pssn (h : PSs X rest t) : PSsn n X rest t := ⟨fun pins s σ H D _ I q => h.run pins s σ H D I q⟩
theorem PSsn.toT (h : PSsn 1 X rest t) : PSsT X rest t := fun pins s σ H D l I q => h.run pins s σ H D l I q
theorem PEn.mono {m : Nat} (h : PEn n X e te) (l : n ≤ m) : PEn m X e te := ⟨fun pins s σ H Q k I q => h.run pins s σ H Q (Nat.le_trans l k) I q⟩
/-! #### statements -/
theorem pssn_cons (h1 : PSn n X st t) (h2 : PSsn n X rest u) : PSsn n X (st :: rest) (tSeq t u) := by
  constructor
  intro pins s σ H D l I h
  refine wpAny_execs_cons (thk l (h1.run pins s σ H { D with nx := u D } l I h) fun f s1 l1 q => ?_)
  cases f with
  | next =>
    obtain ⟨σ', H', J, q'⟩ := q
    exact h2.run pins s1 σ' H' D l1 J q'
  | ret w => exact q
  | brk => exact q
  | cont => exact q
theorem pssn_one (h1 : PSn n X st t) : PSsn n X [st] t := by
  constructor
  intro pins s σ H D l I h
  refine wpAny_execs_cons (thn (h1.run pins s σ H D l I h) fun f s1 q => ?_)
  cases f with
  | next => exact wpAny_execs_nil q
  | ret w => exact q
  | brk => exact q
  | cont => exact q
theorem psn_if {s1 s2 : List Stmt} (hc : PTn n X c tt) (ha : PSsn n X s1 t) (hb : PSsn n X s2 u) : PSn n X (.If c s1 s2 pos) (tIfS tt t u) := by
  constructor
  intro pins s σ H D l I h
  refine wpAny_If (thk l (hc.run pins s σ H _ l I h) fun d s' l' ⟨H1, I1, q1⟩ => ?_)
  cases d with
  | true => exact ha.run pins s' σ H1 D l' I1 q1
  | false => exact hb.run pins s' σ H1 D l' I1 q1
theorem psn_ret (he : PEn n X e te) : PSn n X (.Return (some e) pos) (tRet te) := by
  constructor
  intro pins s σ H D l I h
  exact wpAny_Return_some (thn (he.run pins s σ H _ l I h) fun w s1 ⟨x, H1, I1, r1, q1⟩ => ⟨x, σ, H1, I1, r1, q1⟩)
theorem psn_expr (he : PEn n X e te) (hs : swapsWith e none pos.line X.env = pure false := by rfl) : PSn n X (.Expr e pos) (tDrop te) := by
  constructor
  intro pins s σ H D l I h
  exact wpAny_Expr_any (thn (he.run pins s σ H _ l I h) fun w s1 ⟨x, H1, I1, r1, q1⟩ => ⟨σ, H1, I1, q1⟩) I.quiet hs
theorem psn_set {i : Nat} {x : Str} {pos' : Pos} (hN : X.N.Nodup) (hi : X.N[i]? = some x) (hx : Loc X.env.scope x) (he : PEn n X e te) (hs : swapsWith e (some (.Name x pos')) pos.line X.env = pure false := by rfl)
    (hf : X.fn x = true ∨ X.env.scope.names.lookup x = some .local := by first | exact .inl rfl | exact .inr rfl | assumption) : PSn n X (.Assign [.Name x pos'] e pos) (tAsg te (gName i)) := by
  constructor
  intro pins s σ H D l I h
  refine wpAny_Assign_Name (thn (he.run pins s σ H _ l I h) fun w s1 ⟨y, H1, I1, r1, q1⟩ => ?_) hs
  exact store_ok I1 hN hi hx r1 (fun s2 I2 => ⟨_, H1, I2, q1⟩) hf
/-! #### arguments, calls -/
theorem pan_cons (ha : PEn n X e te) (hr : PAn n X es tl) (hs : starEach (e :: es) X.env = (false, eval e X.env) :: starEach es X.env := by rfl) : PAn n X (e :: es) (tCons te tl) := by
  constructor
  intro pos pins s σ H Q l I h
  rw [hs]
  show wpAny _ _ (spliced ((false, eval e X.env) :: backTo pos (starEach es X.env))) _ _ s
  refine Calls.spliced_cons (thk l (ha.run pins s σ H _ l I h) fun w s1 l1 ⟨x, H1, I1, r1, q1⟩ => ?_)
  exact thn (hr.run pos pins s1 σ H1 _ l1 I1 q1) fun us s2 ⟨xs, H2, I2, r2, q2⟩ => ⟨x :: xs, H2, I2, .cons r1 r2, q2⟩
theorem pan_nil : PAn n X [] tNil := pan pa_nil
section
variable {k : Nat} {f : Addr} {sp : Sp} {E : XK} {x : Str}
theorem run_fnN {pins : List (Addr × Obj)} {σ : L2.St} {H : Hp} {s : Shared} {us : List Value} {vs : List V} {Q : VK} (F : FnN n X.prog X.w X.K X.mg X.base k f sp) (hr : Room k X.A) (l : n ≤ s.toks) (I : Inv X pins σ H s) (r : Vals vs us) (h : sp vs H Q E) :
    codeAny (model X.prog X.w) X.A (.call (.ref f) ⟨us, []⟩) (fun r s' => match r with | .ok (.ret v) => EP X pins σ Q v s' | .ok _ => False | .error e => X.xe e s') s := by
  refine codeAny_mono (F X.A X.stack s H us vs Q E l hr I.env0 r h) fun r s' hq => ?_
  cases r with
  | error e => exact pass0 pins σ H s e s' I hq
  | ok fl =>
    cases fl with
    | ret w => exact I.after hq
    | next => exact False.elim hq
    | brk => exact False.elim hq
    | cont => exact False.elim hq
theorem pen_callN (F : FnN n X.prog X.w X.K X.mg X.base k f sp) (hr : Room k X.A) (hg : Gl X x) (hm : X.mg x = some (.ref f)) (hk : PySem.W.keepIn X.K (.ref f) = true)
    (ha : PAn n X (e :: es) tl) (hdb : (x == ("__debug__" : Str)) = false := by decide) (he : starEach (e :: es) X.env = (false, eval e X.env) :: starEach es X.env := by rfl) (hpl : (backTo pos (starEach es X.env)).any (·.1) = false := by rfl) :
    PEn n X (.Call (.Name x p) (e :: es) [] pos) (tCall sp [] E tl) := by
  constructor
  intro pins s σ H Q l I h
  refine wpAny_Call_Name_kw (ld_glob I hg hm ?_ hdb)
  refine PySem.W.callWith_K (h₀ := X.base) I.ok.mod.kin hk (thk l (ha.run pos pins s σ H _ l I h) ?_) he hpl
  rintro us s1 l1 ⟨vs, H1, I1, r, q⟩
  rw [List.append_nil] at q
  exact ⟨I1.kIn, wpAny_call (run_fnN F hr l1 I1 r q)⟩
/-- a plain def, its arguments with n tokens out -/
theorem pen_call {CX : CXT} (F : FnR X.prog X.w X.K X.mg X.base CX k f sp) (hr : Room k X.A) (hg : Gl X x) (hm : X.mg x = some (.ref f)) (hk : PySem.W.keepIn X.K (.ref f) = true) (hx : Passes CX X E)
    (ha : PAn n X (e :: es) tl) (hdb : (x == ("__debug__" : Str)) = false := by decide) (he : starEach (e :: es) X.env = (false, eval e X.env) :: starEach es X.env := by rfl) (hpl : (backTo pos (starEach es X.env)).any (·.1) = false := by rfl) :
    PEn n X (.Call (.Name x p) (e :: es) [] pos) (tCall sp [] E tl) := by
  constructor
  intro pins s σ H Q l I h
  refine wpAny_Call_Name_kw (ld_glob I hg hm ?_ hdb)
  refine PySem.W.callWith_K (h₀ := X.base) I.ok.mod.kin hk (thn (ha.run pos pins s σ H _ l I h) ?_) he hpl
  rintro us s1 ⟨vs, H1, I1, r, q⟩
  rw [List.append_nil] at q
  exact ⟨I1.kIn, wpAny_call (run_fnR F hr hx I1 r q)⟩
end
/-! #### operators, tests -/
theorem pen_op {op : Operator} {r : R2} (ho : OpR X (binaryOp op) r) (ha : PEn n X a ta) (hb : PEn n X b tb) : PEn n X (.BinOp a op b pos) (tOp r ta tb) := by
  constructor
  intro pins s σ H Q l I h
  refine wpAny_BinOp (thk l (ha.run pins s σ H _ l I h) fun w s1 l1 ⟨x, H1, I1, r1, q1⟩ => ?_)
  exact thn (hb.run pins s1 σ H1 _ l1 I1 q1) fun w2 s2 ⟨y, H2, I2, r2, q2⟩ => ho pins s2 σ H2 x y w w2 Q I2 r1 r2 q2
theorem pen_cmpR {op : CmpOp} {r : R2} (ho : OpR X (compareOp op) r) (ha : PEn n X a ta) (hb : PEn n X b tb) (hm : behindInMarks op b = false) : PEn n X (.Compare a [op] [b] pos) (tOp r ta tb) := by
  constructor
  intro pins s σ H Q l I h
  refine wpAny_Compare1 (thk l (ha.run pins s σ H _ l I h) fun w s1 l1 ⟨x, H1, I1, r1, q1⟩ => ?_) hm
  exact thn (hb.run pins s1 σ H1 _ l1 I1 q1) fun w2 s2 ⟨y, H2, I2, r2, q2⟩ => ho pins s2 σ H2 x y w w2 Q I2 r1 r2 q2
theorem ptn_val (h : PEn n X e te) (he : ∀ whole, isTrue e X.env whole = (do let v ← whole; standAt e.pos; holding [v] (truthy v)) := by intro _; rfl) : PTn n X e (tB te) := by
  constructor
  intro pins s σ H Q l I hw
  refine isTrue_plain (thn (h.run pins s σ H _ l I hw) fun w s1 ⟨x, H1, I1, r1, q1⟩ => ?_) (he _)
  obtain ⟨d, rfl, q⟩ := q1
  cases r1
  exact wpAny_truthy_bool ⟨H1, I1, q⟩
theorem ptn_not (ha : PTn n X a tt) : PTn n X (.UnaryOp .Not a pos) (tNot tt) := by
  constructor
  intro pins s σ H Q l I h
  exact isTrue_not (ha.run pins s σ H (fun c H1 => Q (!c) H1) l I h)
/-- a method of texts, its argument with n tokens out -/
theorem pen_m1 {id : String} {name : Str} {apos : Pos} {r : V → List V → Hp → VK → Prop} (slot : Slot "str" name id) (ty : typeOf (.builtin id) = pure (.type "method_descriptor")) (rule : MtR X id r) (ho : PEn n X a ta) (he : PEn n X e te)
    (hs : starEach [e] X.env = [(false, eval e X.env)] := by rfl) (hbase : attributeBase a name X.env (eval a X.env) = eval a X.env := by rfl) (hline : (apos.endLine == pos.line) = true := by rfl) :
    PEn n X (.Call (.Attribute a name apos) [e] [] pos) (tM1 r ta te) := by
  constructor
  intro pins s σ H Q l I h
  refine PySem.Call_method1 hbase hs hline (thk l (ho.run pins s σ H _ l I h) ?_)
  rintro v s1 l1 ⟨x, H1, I1, r1, ⟨z, rfl⟩, q1⟩
  obtain ⟨t, rfl⟩ := _root_.id r1
  refine ⟨"str", _, F.plainAttrs_str, slot, ty, typeIs_str _ _ _, (fun _ e => nomatch e), Calls.callWith_builtin rfl (Calls.evalArgs_plain (Calls.spliced_cons ?_))⟩
  exact thn (he.run pins s1 σ H1 _ l1 I1 q1) fun w s2 ⟨y, H2, I2, r2, q2⟩ => Calls.spliced_nil (rule pins s2 σ H2 _ [y] _ [w] Q I2 r1 (.cons r2 .nil) q2)
/-- written texts replaced, a token out -/
theorem pen_replC {y z : Str} {j k : Nat} {c0 c1 apos : Pos} (hn : 1 ≤ n) (ho : PE X a ta) (hyz : (y == z) = false := by decide)
    (hst : starEach [.Constant (.str y) j c0, .Constant (.str z) k c1] X.env = [(false, eval (.Constant (.str y) j c0) X.env), (false, eval (.Constant (.str z) k c1) X.env)] := by rfl)
    (hbase : attributeBase a "replace" X.env (eval a X.env) = eval a X.env := by rfl) (hline : (apos.endLine == pos.line) = true := by rfl) :
    PEn n X (.Call (.Attribute a "replace" apos) [.Constant (.str y) j c0, .Constant (.str z) k c1] [] pos) (CwR.tReplC ta y z) :=
  ⟨fun pins s σ H Q l I h => CwR.pet_replC (j := j) (k := k) ho hyz hst hbase hline pins s σ H Q (Nat.le_trans hn l) I h⟩
end
end Pd

set_option maxHeartbeats 4000000
namespace Pd
open PySem PySem.Spec PyProof.Rows L2
/-! ### a comprehension, n tokens out -/
set_option maxHeartbeats 4000000 in
theorem pen_lc {n : Nat} {X : Cx} {elt tg iter : Expr} {ifs : List Expr} {scope : Scope} {own : List (Str × Nat)} {pos : Pos} {wi : TI} {g : TG} {tt : TT} {te : TE} (hc : X.calm = true) (hN : X.N.Nodup) (hi : PI X tg iter wi) (ok : BlkOk X.N X.env.scope scope own)
    (hg : ∀ (s : Shared) (H : Hp) (C : Addr) (cl : List (Str × Addr)) (fp : List Addr), PG (X.blk s H scope (compEnvC scope cl C X.env) fp) tg g)
    (ht : ∀ (s : Shared) (H : Hp) (C : Addr) (cl : List (Str × Addr)) (fp : List Addr), PTs (X.blk s H scope (compEnvC scope cl C X.env) fp) ifs tt)
    (he : ∀ (s : Shared) (H : Hp) (C : Addr) (cl : List (Str × Addr)) (fp : List Addr), PEn n (X.blk s H scope (compEnvC scope cl C X.env) fp) elt te) (hs : ∀ x, foldedSetIterable iter X.env x = pure x := by intro _; rfl) :
    PEn n X (.ListComp elt [⟨tg, iter, ifs, 0⟩] scope pos) (tLc wi g tt te (own.map (·.2))) := by
  constructor
  intro pins s σ H Q l0 I h
  rw [eval_ListComp]
  have hf : ∀ y ∈ scope.names, y.2 = .free → ∃ c, X.env.cells.lookup y.1 = some c := by
    intro y hy e
    rcases ok.free y hy e with k | k
    · exact I.ok.has _ (.inl k)
    · exact I.ok.has _ (.inr k)
  refine wpAny_comprehension_free (use := none) rfl hs (closure_ok hf) ok.kind (fun y hy e => by rw [ok.uniq y hy, e]) (thk l0 (hi.run pins s σ H _ I h) ?_)
  intro xv s1 l1 hx
  refine thk l1 hx ?_
  rintro itv s2 l2 ⟨it, fp, tn, J, H2, rfl, I2, T, st2, f2, q⟩
  refine wpAny_newObj_type (newEnv_comp ?_) (by show 0 ≤ sizeLine; decide)
  generalize hD : s2.heap.objs.size = D
  have dn : H2 D = none := I2.hok.fresh (Nat.le_of_eq hD)
  obtain ⟨W, ⟨m0, w0⟩, turn⟩ := q D dn
  generalize hs3 : ({ s2 with heap := s2.heap.push { cls := .type "list", data := .seq ([] : List Value).toArray } } : Shared) = s3
  have t3 : s3.toks = s2.toks := by rw [← hs3]
  have h3 : s3.heap = s2.heap.push { cls := .type "list", data := .seq ([] : List Value).toArray } := by rw [← hs3]
  have I3 : Inv X pins σ (upd H2 D (.lst [])) s3 := by
    rw [← hs3]
    refine I2.laid (t' := s2.toks) (fun b o e => Heap.get?_push_of_some _ e) (Nat.le_of_eq hD) ⟨Nat.zero_le _, [], 0, .nil, ?_⟩
    rw [← hD]
    exact Heap.get?_push_size _ rfl
  have sz : ∀ b ∈ fp, b < s2.heap.objs.size := by
    intro b hb
    obtain ⟨o, e, _⟩ := T.obj _ _ st2 b hb
    exact Heap.lt_size e
  have f3 : ∀ b ∈ fp, FpOk X pins (upd H2 D (.lst [])) b ∧ b < s3.heap.objs.size := by
    intro b hb
    have z := sz b hb
    refine ⟨⟨?_, (f2 b hb).2⟩, by rw [h3, Heap.size_push]; exact Nat.lt_succ_of_lt z⟩
    rw [upd_ne (by rw [← hD]; exact Nat.ne_of_lt z)]
    exact (f2 b hb).1
  have st3 : tn 0 s3.heap := T.keep _ _ _ st2 fun b _ o e => by rw [h3]; exact Heap.get?_push_of_some _ e
  have I4 := block_start I3 ok hN f3
  have pg := hg s3 (upd H2 D (.lst [])) s3.heap.objs.size (cellsFrom (s3.heap.objs.size + 1) scope.names (cloFrom X.env.cells scope.names [])) fp
  have pt := ht s3 (upd H2 D (.lst [])) s3.heap.objs.size (cellsFrom (s3.heap.objs.size + 1) scope.names (cloFrom X.env.cells scope.names [])) fp
  have pe := he s3 (upd H2 D (.lst [])) s3.heap.objs.size (cellsFrom (s3.heap.objs.size + 1) scope.names (cloFrom X.env.cells scope.names [])) fp
  have nfp : ∀ b ∈ fp, (upd H2 D (.lst [])) b = none := fun b hb => (f3 b hb).1.1
  show codeAny _ _ (.compStart (.ListComp elt [⟨tg, iter, ifs, 0⟩] scope pos) 0 (.ref it) (.ref D) (compEnvC scope (cellsFrom (s3.heap.objs.size + 1) scope.names (cloFrom X.env.cells scope.names [])) s3.heap.objs.size X.env))
    (compPost (model X.prog X.w) X.A X.xe none (EP X pins σ Q) (.ref D) s3.heap.objs.size) { s3 with heap := pushCells (s3.heap.push { cls := .type "dict", data := .dict #[] }) scope.names }
  generalize hce : compEnvC scope (cellsFrom (s3.heap.objs.size + 1) scope.names (cloFrom X.env.cells scope.names [])) s3.heap.objs.size X.env = ce at I4 pg pt pe ⊢
  have cL : ce.locals = s3.heap.objs.size := by subst hce; rfl
  generalize hH3 : upd H2 D (.lst []) = H3 at I3 I4 pg pt pe w0 nfp f3
  generalize hs4 : ({ s3 with heap := pushCells (s3.heap.push { cls := .type "dict", data := .dict #[] }) scope.names } : Shared) = s4 at I4 ⊢
  have l4 : n ≤ s4.toks := by rw [← hs4]; show n ≤ s3.toks; rw [t3]; exact l2
  have st4 : tn 0 s4.heap := T.keep _ _ _ st3 fun b _ o e => by rw [← hs4]; exact pushCells_keeps _ _ _ _ (Heap.get?_push_of_some _ e)
  have stat : ∀ {σ' : L2.St} {H' : Hp} {s' : Shared}, Inv (X.blk s3 H3 scope ce fp) [] σ' H' s' → (∀ b ∈ fp, H' b = none) → ∀ b ∈ fp, FpOk (X.blk s3 H3 scope ce fp) [] H' b := fun {σ' H' s'} I' hn b hb =>
    ⟨hn b hb, (I'.ok.exf b hb).1, I'.ok.exfs b hb, .inl hb, fun x c e => (I'.ok.exf b hb).2 x c e, fun p hp => absurd (show p ∈ ([] : List (Addr × Obj)) ++ [] from hp) (by simp)⟩
  have loop : codeAny (model X.prog X.w) X.A (.compLoop (.ListComp elt [⟨tg, iter, ifs, 0⟩] scope pos) 0 (.ref it) (.ref D) ce) (compPost (model X.prog X.w) X.A X.xe none (EP X pins σ Q) (.ref D) s3.heap.objs.size) s4 := by
    refine compLoop_any (fun m s' => n ≤ s'.toks ∧ ∃ i H', Inv (X.blk s3 H3 scope ce fp) [] (wipe σ (own.map (·.2))) H' s' ∧ tn i s'.heap ∧ (∀ b ∈ fp, H' b = none) ∧ W i m H') ?_ m0 ⟨l4, 0, H3, I4, st4, nfp, w0⟩
    rintro m s5 ⟨l5, i, H5, I5, st5, n5, w5⟩
    rcases turn i m H5 w5 with ⟨stop, qq⟩ | ⟨go, Nx, hNx, step⟩
    · refine thnF (T.done (X.blk s3 H3 scope ce fp) rfl rfl rfl hc i [] s5 _ H5 (fun _ _ => False) I5 (stat I5 n5) st5 stop) ?_
      rintro r s6 ⟨rfl, I6⟩
      have I7 : Inv X pins σ H5 s6 := I3.call' (ch := fp) I6.os I6.base I6.hok I6.bare fun b hb => ⟨(f3 b hb).1.2.2.2.1, (f3 b hb).1.2.1, (f3 b hb).1.2.2.2.2.1, (f3 b hb).1.2.2.2.2.2⟩
      have nC : H5 s3.heap.objs.size = none := by
        have z : H5 ce.locals = none := I6.free
        rw [cL] at z
        exact z
      obtain ⟨mm, hn, _⟩ := I6.loc
      have hn : s6.heap.Ns ce.locals mm := hn
      rw [cL] at hn
      obtain ⟨g0, g1, g2, g3, g4, g5⟩ := I3.fpOk (H' := H5) (Nat.le_refl _) nC
      exact ⟨mm, hn, fun g sb => ⟨.ref D, H5, I7.turned (t' := s6.toks) (fun b o hb e => (sb.2 b hb).trans e) g0 g1 g3 g4 g5, rfl, qq⟩⟩
    · refine thnF (tkE l5 (T.item (X.blk s3 H3 scope ce fp) rfl rfl rfl hc i [] s5 _ H5 (fun _ _ => False) I5 (stat I5 n5) st5 go)) ?_
      rintro r s6 ⟨l6, u, rfl, h6⟩
      refine thnF (tkE l6 h6) ?_
      rintro _ s7 ⟨l7, x, H7, I7, r7, y7, st7, n7⟩
      have I7' := I7.pinned (stat I7 n7) (T.obj _ _ st7)
      refine thnF (tkE l7 (pg.run _ s7 _ H7 x u _ I7' r7 (step x H7 y7))) ?_
      rintro _ s8 ⟨l8, σ8, H8, I8, hw8, q8⟩
      refine thnF (tkE l8 (pt.run _ s8 σ8 H8 _ I8 q8)) ?_
      rintro b s9 ⟨l9, H9, I9, q9⟩
      have fin : ∀ {s' : Shared} {H' : Hp}, n ≤ s'.toks → Inv (X.blk s3 H3 scope ce fp) ([] ++ pinsAt fp s7.heap) σ8 H' s' → Nx H' →
          ∃ m', m' < m ∧ n ≤ s'.toks ∧ ∃ i H', Inv (X.blk s3 H3 scope ce fp) [] (wipe σ (own.map (·.2))) H' s' ∧ tn i s'.heap ∧ (∀ b ∈ fp, H' b = none) ∧ W i m' H' := by
        intro s' H' ls I' nx
        obtain ⟨m', hm, w'⟩ := hNx H' nx
        have pin' : ∀ b ∈ fp, ∀ o, s7.heap.get? b = some o → s'.heap.get? b = some o ∧ H' b = none := fun b hb o e =>
          let z := I'.pin (b, o) (List.mem_append_right _ (List.mem_append_right _ (mem_pinsAt hb e)))
          ⟨z.1, z.2.1⟩
        have hl : (wipe σ (own.map (·.2))).length = σ8.length := by rw [← hw8, wipe_length]
        refine ⟨m', hm, ls, i + 1, H', (I'.unpinned (pins := [])).weak hl (fun j v e => ?_), T.keep _ _ _ st7 fun b hb o e => (pin' b hb o e).1, fun b hb => ?_, w'⟩
        · rw [← hw8] at e
          exact (wipe_some e).1
        · obtain ⟨o, e, _⟩ := T.obj _ _ st7 b hb
          exact (pin' b hb o e).2
      cases b with
      | false =>
        simp only [Bool.false_eq_true, if_false] at q9 ⊢
        exact fin l9 I9 q9
      | true =>
        simp only [if_true] at q9 ⊢
        refine thnF (tkE l9 (pe.run _ s9 σ8 H9 _ l9 I9 q9)) ?_
        rintro z s10 ⟨l10, yv, H10, I10, r10, acc, hD10, hz10, nx⟩
        refine thnF (tkE l10 (app_ok (X := X.blk s3 H3 scope ce fp) (Q := fun _ s' => Inv (X.blk s3 H3 scope ce fp) ([] ++ pinsAt fp s7.heap) σ8 (upd H10 D (.lst (acc ++ [yv]))) s') I10 hD10 hz10 r10 fun s11 I11 => I11)) ?_
        rintro _ s11 ⟨l11, I11⟩
        exact fin l11 I11 nx
  exact codeAny_compStart_list loop (T.self X.A 0 _ _ _ st4 loop)
/-! ### defs -/
theorem fnN_of {P : Program} {w : World} {K : PySem.W.Frag} {mg : Str → Option Value} {base : Heap} {x qual : Str} {st : Stmt} {f : Addr} {fd : FuncData} {N ps : List Str} {k n : Nat} {sp : Sp}
    (F : Fun K x qual st f fd) (S : FnScope N ps (defScope st))
    (hb : ∀ (kV doc pm : Value) (an : Option Addr) (cdv ct : Value) (us : List Value), us.length = ps.length → bindArgs (PySem.W.fnOf x qual (defArgs st) (defBody st) (defScope st) .none kV doc pm an cdv ct) ⟨us, []⟩ = pure (ps.zip us))
    (len : ∀ vs H Q E, sp vs H Q E → vs.length = ps.length)
    (hbody : ∀ (cdv : Value) (A : Around) (outer : List Env) (s : Shared) (H : Hp) (vs : List V) (Q : VK) (E : XK), Room k (A.deeper (envOfC qual (defScope st) s.heap.objs.size f cdv)) → sp vs H Q E →
      ∃ t, PSsn n (cxOf CX0 P w K mg base N qual (defScope st) f cdv A outer s H E) (defBody st) t ∧ t { nx := fun _ H' => Q .non H', rt := Q } (start N vs) H) : FnN n P w K mg base (k + 1) f sp := by
  obtain ⟨oc, od, kV, doc, pm, an, cdv, ct, osl, rfl, lk, hcd⟩ := F.ex
  intro A outer s H us vs Q E l0 hr e0 r hsp
  have hl : us.length = ps.length := r.length.symm.trans (len _ _ _ _ hsp)
  have KX : K.In s.heap := e0.mod.kin.keeps fun b o e => (e0.bs b o e).1
  have lim : s.heap.NoLimit := e0.mod.nolimit.keeps fun b o e => (e0.bs b o e).1
  have hkind : ∀ y ∈ ps.zip us, (defScope st).names.lookup y.1 = some .local ∨ ((defScope st).names.lookup y.1 = some .cell ∧ ((cellsFrom (s.heap.objs.size + 1) (defScope st).names []).lookup y.1).isSome = true) := fun y hy => by
    rcases S.par y.1 (List.of_mem_zip hy).1 with q | q
    · exact .inl q
    · exact .inr ⟨q, PySem.W.cellsFrom_some _ _ _ (.inl q)⟩
  refine codeAny_call_function hr.depth (KX _ _ lk) rfl S.co S.gen rfl (PySem.W.codeRec_of KX hcd) (BindsTo.of_eq (hb kV doc pm an cdv ct us hl) _ _ _ _ ?_)
  refine wpAny_mono (tkE (Nat.le_refl s.toks) (wpAny_newFunctionEnv_cells S.kind hkind fun env he s1 x => (⟨he, x⟩ : env = _ ∧ InCallC s _ _ _ _ s1))) ?_ fun _ _ z => z
  rintro env s1 ⟨ht, rfl, x⟩
  refine ⟨lim.keeps x.toInCall.keep, codeAny_func ?_⟩
  obtain ⟨t, he, hq⟩ := hbody cdv A outer s H vs Q E (hr.deeper _) hsp
  have I : Inv (cxOf CX0 P w K mg base N qual (defScope st) f cdv A outer s H E) [] (start N vs) H s1 := inv_start S hr.hd e0 (len _ _ _ _ hsp) r x
  refine wpAny_mono (he.run [] s1 _ H _ (Nat.le_trans l0 ht) I hq) (fun fl s' hs => ?_) fun _ _ z => z
  cases fl with
  | ret u =>
    obtain ⟨v, σ', H', J, rv, q⟩ := hs
    exact ⟨v, H', J.os, J.bare, J.base, J.hok, rv, q⟩
  | next =>
    obtain ⟨σ', H', J, q⟩ := hs
    exact ⟨.non, H', J.os, J.bare, J.base, J.hok, rfl, q⟩
  | brk =>
    obtain ⟨_, _, _, q⟩ := hs
    exact False.elim q
  | cont =>
    obtain ⟨_, _, _, q⟩ := hs
    exact False.elim q
/-- a def with a parameter: behind the binding a token is out -/
theorem fnOk_1 {P : Program} {w : World} {K : PySem.W.Frag} {mg : Str → Option Value} {base : Heap} {x qual : Str} {st : Stmt} {f : Addr} {fd : FuncData} {N ps : List Str} {k : Nat} {sp : Sp} {CX : CXT}
    (F : Fun K x qual st f fd) (S : FnScope N ps (defScope st)) (hnc : ∀ y ∈ (defScope st).names, y.2 ≠ .cell) (hps : 1 ≤ ps.length)
    (len : ∀ vs H Q E, sp vs H Q E → vs.length = ps.length)
    (hbody : ∀ (cdv : Value) (A : Around) (outer : List Env) (s : Shared) (H : Hp) (vs : List V) (Q : VK) (E : XK), Room k (A.deeper (envOfC qual (defScope st) s.heap.objs.size f cdv)) → sp vs H Q E →
      ∃ t, PSsn 1 (cxOf CX P w K mg base N qual (defScope st) f cdv A outer s H E) (defBody st) t ∧ t { nx := fun _ H' => Q .non H', rt := Q } (start N vs) H) : FnOk P w K mg base CX (k + 1) f fd ps sp := by
  obtain ⟨oc, od, kV, doc, pm, an, cdv, ct, osl, rfl, lk, hcd⟩ := F.ex
  exact fn_ofT lk hcd S hnc hps len fun A outer s H vs Q E hr h => by
    obtain ⟨t, h1, h2⟩ := hbody cdv A outer s H vs Q E hr h
    exact ⟨t, h1.toT, h2⟩
end Pd

set_option maxHeartbeats 2000000
namespace Pd
open PySem PySem.Spec PyProof.Rows L2
/-! ### a sign of a text, as a new text -/
def tIxS (ta tb : TE) : TE := fun σ H Q => ta σ H fun x H1 => ∃ z : Str, x = .str z ∧ tb σ H1 fun y H2 => ∃ (i : Int) (c : Nat), y = .int i ∧ 0 ≤ i ∧ i < z.length ∧ z.length ≤ 1000 ∧ z.cps[i.toNat]? = some c ∧ Q (.str ⟨#[c]⟩) H2
/-- as PEF, but the new token may be the first free one -/
structure PEG (X : Cx) (e : Expr) (t : TE) : Prop where
  run : ∀ (pins : List (Addr × Obj)) (s : Shared) (σ : L2.St) (H : Hp) (Q : VK), Inv X pins σ H s → t σ H Q →
    wpAny (model X.prog X.w) X.A (eval e X.env) (fun u s' => EP X pins σ Q u s' ∧ s.toks ≤ s'.toks ∧ Frsh s.toks s'.toks u) X.xe s
theorem PEF.peg {X : Cx} {e : Expr} {t : TE} (h : PEF X e t) : PEG X e t := ⟨fun pins s σ H Q I q => thn (h.run pins s σ H Q I q) fun u s' ⟨a, b, x, t, e, l1, l2⟩ => ⟨a, b, x, t, e, by omega, l2⟩⟩
theorem peg_ix {X : Cx} {a b : Expr} {ta tb : TE} {pos : Pos} (ha : PE X a ta) (hb : PE X b tb) (hs : PlainIxT b) : PEG X (.Subscript a b pos) (tIxS ta tb) := by
  constructor
  intro pins s σ H Q I h
  refine Subscript_ (thk (Nat.le_refl s.toks) (ha.run pins s σ H _ I h) ?_)
  rintro u0 s1 l1 ⟨x, H1, I1, rx, z, rfl, h1⟩
  obtain ⟨tz, rfl⟩ := rx
  refine thk l1 (hb.run pins s1 σ H1 _ I1 h1) ?_
  rintro u s2 l2 ⟨y, H2, I2, ry, i, c, rfl, h0, h1, hz, hc, q⟩
  obtain ⟨t, rfl⟩ := ry
  have e : seqIndex? i z.length = some i.toNat := PySem.StrLaws.seqIndex_nonneg h0 h1
  refine tail_any (typeIs_str s2 z tz) slot_str_getitem.lookup (getItem_str (c := c) ?_ (by rw [e]; exact hc) ⟨⟨.str ⟨#[c]⟩, H2, I2.tok _, ⟨_, rfl⟩, q⟩, ?_, _, _, rfl, ?_, ?_⟩) (hs _ _)
  · rw [decide_eq_false (by omega), decide_eq_false (by omega)]; rfl
  · show s.toks ≤ s2.toks + 1; omega
  · exact l2
  · exact Nat.lt_succ_self _
/-! ### a test that gives out a token -/
structure PTF (X : Cx) (e : Expr) (t : TT) : Prop where
  run : ∀ (pins : List (Addr × Obj)) (s : Shared) (σ : L2.St) (H : Hp) (Q : Bool → Hp → Prop), Inv X pins σ H s → t σ H Q →
    wpAny (model X.prog X.w) X.A (isTrue e X.env (eval e X.env)) (fun b s' => TP X pins σ Q b s' ∧ s.toks + 1 ≤ s'.toks) X.xe s
def tEqI (k : Int) (ta : TE) : TT := fun σ H Q => ta σ H fun x H1 => ∃ n : Int, x = .int n ∧ Q (n == k) H1
theorem ptf_eqI {X : Cx} {a : Expr} {ta : TE} {k : Int} {j : Nat} {cp pos : Pos} (ha : PE X a ta) : PTF X (.Compare a [.Eq] [.Constant (.int k) j cp] pos) (tEqI k ta) := by
  constructor
  intro pins s σ H Q I h
  refine wpAny_isTrue_Compare1 (thk (Nat.le_refl s.toks) (ha.run pins s σ H _ I h) ?_)
  rintro u s1 l1 ⟨x, H1, I1, rx, n, rfl, q⟩
  obtain ⟨t, rfl⟩ := rx
  exact wpAny_Constant_int (eq_int (wpAny_truthy_bool ⟨⟨H1, I1.tok _, q⟩, Nat.succ_le_succ l1⟩))
/-! ### a def of two returns that gives a new text -/
theorem fnT_if {P : Program} {w : World} {K : PySem.W.Frag} {mg : Str → Option Value} {base : Heap} {x qual : Str} {st : Stmt} {f : Addr} {fd : FuncData} {N ps : List Str} {k : Nat} {sp : Sp} {c e1 e2 : Expr} {p1 p2 p3 : Pos}
    (F : Fun K x qual st f fd) (S : FnScope N ps (defScope st)) (hst : defBody st = [.If c [.Return (some e1) p1] [] p2, .Return (some e2) p3])
    (hb : ∀ (kV doc pm : Value) (an : Option Addr) (cdv ct : Value) (us : List Value), us.length = ps.length → bindArgs (PySem.W.fnOf x qual (defArgs st) (defBody st) (defScope st) .none kV doc pm an cdv ct) ⟨us, []⟩ = pure (ps.zip us))
    (len : ∀ vs H Q E, sp vs H Q E → vs.length = ps.length)
    (hbody : ∀ (cdv : Value) (A : Around) (outer : List Env) (s : Shared) (H : Hp) (vs : List V) (Q : VK) (E : XK), Room k (A.deeper (envOfC qual (defScope st) s.heap.objs.size f cdv)) → sp vs H Q E →
      ∃ tc t1 t2, PTF (cxOf CX0 P w K mg base N qual (defScope st) f cdv A outer s H E) c tc ∧ PEG (cxOf CX0 P w K mg base N qual (defScope st) f cdv A outer s H E) e1 t1 ∧ PEG (cxOf CX0 P w K mg base N qual (defScope st) f cdv A outer s H E) e2 t2 ∧
        tc (start N vs) H fun b H1 => if b = true then t1 (start N vs) H1 Q else t2 (start N vs) H1 Q) : FnT P w K mg base CX0 (k + 1) f sp := by
  obtain ⟨oc, od, kV, doc, pm, an, cdv, ct, osl, rfl, lk, hcd⟩ := F.ex
  intro A outer s H us vs Q E hr e0 r hsp
  have hl : us.length = ps.length := r.length.symm.trans (len _ _ _ _ hsp)
  have KX : K.In s.heap := e0.mod.kin.keeps fun b o e => (e0.bs b o e).1
  have lim : s.heap.NoLimit := e0.mod.nolimit.keeps fun b o e => (e0.bs b o e).1
  have hkind : ∀ y ∈ ps.zip us, (defScope st).names.lookup y.1 = some .local ∨ ((defScope st).names.lookup y.1 = some .cell ∧ ((cellsFrom (s.heap.objs.size + 1) (defScope st).names []).lookup y.1).isSome = true) := fun y hy => by
    rcases S.par y.1 (List.of_mem_zip hy).1 with q | q
    · exact .inl q
    · exact .inr ⟨q, PySem.W.cellsFrom_some _ _ _ (.inl q)⟩
  refine codeAny_call_function hr.depth (KX _ _ lk) rfl S.co S.gen rfl (PySem.W.codeRec_of KX hcd) (BindsTo.of_eq (hb kV doc pm an cdv ct us hl) _ _ _ _ ?_)
  refine wpAny_mono (tkE (Nat.le_refl s.toks) (wpAny_newFunctionEnv_cells S.kind hkind fun env he s1 x => (⟨he, x⟩ : env = _ ∧ InCallC s _ _ _ _ s1))) ?_ fun _ _ z => z
  rintro env s1 ⟨ht, rfl, x⟩
  refine ⟨lim.keeps x.toInCall.keep, codeAny_func ?_⟩
  obtain ⟨tc, t1, t2, hc, h1, h2, hq⟩ := hbody cdv A outer s H vs Q E (hr.deeper _) hsp
  have I : Inv (cxOf CX0 P w K mg base N qual (defScope st) f cdv A outer s H E) [] (start N vs) H s1 := inv_start S hr.hd e0 (len _ _ _ _ hsp) r x
  rw [hst]
  have fin : ∀ {s2 : Shared} {H2 : Hp} {e : Expr} {t : TE}, s.toks + 1 ≤ s2.toks → PEG (cxOf CX0 P w K mg base N qual (defScope st) f cdv A outer s H E) e t → Inv (cxOf CX0 P w K mg base N qual (defScope st) f cdv A outer s H E) [] (start N vs) H2 s2 → t (start N vs) H2 Q →
      ∀ {p : Pos}, wpAny (model P w) (cxOf CX0 P w K mg base N qual (defScope st) f cdv A outer s H E).A (exec (.Return (some e) p) (cxOf CX0 P w K mg base N qual (defScope st) f cdv A outer s H E).env) (fun fl s' => ∃ u, fl = .ret u ∧ CE outer P w H s Q u s' ∧ s.toks ≤ s'.toks ∧ Frsh (s.toks + 1) s'.toks u) (cxOf CX0 P w K mg base N qual (defScope st) f cdv A outer s H E).xe s2 := by
    intro s2 H2 e t l2 pe I2 q2 p
    refine wpAny_Return_some (wpAny_mono (pe.run [] s2 _ H2 Q I2 q2) ?_ fun _ _ z => z)
    rintro u s' ⟨⟨v, H', J, rv, q⟩, m1, xz, tz, rfl, m2, m3⟩
    exact ⟨_, rfl, ⟨v, H', J.os, J.bare, J.base, J.hok, rv, q⟩, by omega, xz, tz, rfl, by omega, m3⟩
  have run : wpAny (model P w) (cxOf CX0 P w K mg base N qual (defScope st) f cdv A outer s H E).A (execs [.If c [.Return (some e1) p1] [] p2, .Return (some e2) p3] (cxOf CX0 P w K mg base N qual (defScope st) f cdv A outer s H E).env) (fun fl s' => ∃ u, fl = .ret u ∧ CE outer P w H s Q u s' ∧ s.toks ≤ s'.toks ∧ Frsh (s.toks + 1) s'.toks u)
      (cxOf CX0 P w K mg base N qual (defScope st) f cdv A outer s H E).xe s1 := by
    refine wpAny_execs_cons (wpAny_If (thn (hc.run [] s1 _ H _ I hq) fun d s2 ⟨⟨H2, I2, q2⟩, l1⟩ => ?_))
    have l2 : s.toks + 1 ≤ s2.toks := Nat.le_trans (Nat.succ_le_succ ht) l1
    cases d with
    | true =>
      refine wpAny_execs_cons (wpAny_mono (fin l2 h1 I2 q2) ?_ fun _ _ z => z)
      rintro fl s3 ⟨u, rfl, r3⟩
      exact ⟨u, rfl, r3⟩
    | false =>
      refine wpAny_execs_nil ?_
      refine wpAny_execs_cons (wpAny_mono (fin l2 h2 I2 q2) ?_ fun _ _ z => z)
      rintro fl s3 ⟨u, rfl, r3⟩
      exact ⟨u, rfl, r3⟩
  refine wpAny_mono run ?_ ?_
  · rintro fl s' ⟨u, rfl, ce, l, fr⟩
    refine ⟨ce, fun u' e => ?_⟩
    injection e with e
    injection e with e
    subst e
    exact ⟨l, fr⟩
  · intro e s' h
    exact wpAny_mono h (fun _ _ h => ⟨h, fun _ e => nomatch e⟩) fun _ _ h => ⟨h, fun _ e => nomatch e⟩
/-! ### return ('swap', e1, e2), both new texts -/
def tSwapT (t1 t2 : TE) : TS := fun D σ H => t1 σ H fun x H1 => t2 σ H1 fun y H2 => ∃ a b : Str, x = .str a ∧ y = .str b ∧ ∀ p H3, H2 p = none → SwapAt H3 p a b → (∀ c, c ≠ p → H3 c = H2 c) → D.rt (.ref p) H3
theorem ps_retSwap {X : Cx} {e1 e2 : Expr} {t1 t2 : TE} {j k : Nat} {c p q : Pos} (h1 : PEF X e1 t1) (h2 : PEF X e2 t2)
    (hst : starEach [.Constant (.str "swap") j c, e1, e2] X.env = [(false, eval (.Constant (.str "swap") j c) X.env), (false, eval e1 X.env), (false, eval e2 X.env)] := by rfl) :
    PS X (.Return (some (.Tuple [.Constant (.str "swap") j c, e1, e2] k p)) q) (tSwapT t1 t2) := by
  constructor
  intro pins s σ H D I h
  refine wpAny_Return_some (Tuple_ ?_)
  rw [hst]
  show wpAny _ _ (spliced ((false, eval (.Constant (.str "swap") j c) X.env) :: (false, eval e1 X.env) :: [(false, eval e2 X.env)])) _ _ _
  refine Calls.spliced_cons (Calls.Constant_str (Calls.spliced_cons ?_))
  refine thn (h1.run pins _ σ H _ (I.tok _) h) ?_
  rintro u1 s1 ⟨⟨x, H1, I1, r1, h'⟩, l1, z1, k1, rfl, m1, m2⟩
  refine Calls.spliced_cons (thn (h2.run pins s1 σ H1 _ I1 h') ?_)
  rintro u2 s2 ⟨⟨y, H2, I2, r2, a, b, rfl, rfl, fin⟩, l2, z2, k2, rfl, m3, m4⟩
  obtain rfl : z1 = a := by obtain ⟨_, e⟩ := r1; injection e
  obtain rfl : z2 = b := by obtain ⟨_, e⟩ := r2; injection e
  refine Calls.spliced_nil (wpAny_newTuple ?_ (by show 3 ≤ sizeLine; decide))
  have new : H2 s2.heap.objs.size = none := I2.hok.fresh (Nat.le_refl _)
  refine ⟨.ref s2.heap.objs.size, σ, upd H2 s2.heap.objs.size (.frz { cls := .type "tuple", data := .seq #[.str "swap" s.toks, .str z1 k1, .str z2 k2] 0 } (.tup [.str "swap", .str z1, .str z2])), ?_, rfl, fin _ _ new ⟨0, _, k1, k2, upd_same, ?_, ?_, fun z => ?_⟩ fun b hb => upd_ne hb⟩
  · exact I2.laid (t' := s2.toks) (fun b o q => Heap.get?_push_of_some _ q) (Nat.le_refl _) ⟨Heap.get?_push_size _ rfl, by show 3 ≤ sizeLine; decide, [.str "swap" _, .str z1 k1, .str z2 k2], .cons ⟨_, rfl⟩ (.cons ⟨_, rfl⟩ (.cons ⟨_, rfl⟩ .nil)), ⟨_, Heap.get?_push_size _ rfl, rfl, _, rfl⟩⟩
  · exact Nat.ne_of_gt (Nat.lt_of_lt_of_le (Nat.succ_pos _) m1)
  · exact Nat.ne_of_gt (Nat.lt_of_lt_of_le (Nat.succ_pos _) m3)
  · subst z
    exact absurd (Nat.lt_of_lt_of_le m2 (Nat.le_of_succ_le m3)) (Nat.lt_irrefl _)
end Pd

set_option maxHeartbeats 2000000
namespace Pd
open PySem PySem.Spec PyProof.Rows L2
theorem callR_or {X : Cx} {f : Value} {r1 r2 : List V → Hp → VK → Prop} (h1 : CallR X f r1) (h2 : CallR X f r2) : CallR X f (fun xs H Q => r1 xs H Q ∨ r2 xs H Q) := by
  intro pins s σ H xs us Q I r h
  rcases h with h | h
  · exact h1 pins s σ H xs us Q I r h
  · exact h2 pins s σ H xs us Q I r h
/-- f(k = v, ..) -/
theorem pe_callK0 {X : Cx} {CX : CXT} {k : Nat} {f : Addr} {fd : FuncData} {ps ks : List Str} {sp : Sp} {E : XK} {x : Str} {p pos : Pos} {kws : List Keyword} {tk : TA} {g : List Value → List Value → List Value} {gV : List V → List V → List V}
    (F : FnOk X.prog X.w X.K X.mg X.base CX k f fd ps sp) (hr : Room k X.A) (hg : Gl X x) (hm : X.mg x = some (.ref f)) (hk : PySem.W.keepIn X.K (.ref f) = true) (hb : KBn X.K fd ps 0 ks g gV) (hx : Passes CX X E) (hkw : PK X kws tk)
    (hall : (backToKw pos (keywordEach kws X.env)).all (·.1.isSome) = true := by rfl) (hks : (backToKw pos (keywordEach kws X.env)).filterMap (·.1) = ks := by rfl) (hdb : (x == ("__debug__" : Str)) = false := by decide)
    (hpl : ((backTo pos (starEach [] X.env)).any (·.1) || (backToKw pos (keywordEach kws X.env)).any (·.1.isNone)) = false := by rfl) :
    PE X (.Call (.Name x p) [] kws pos) (tCallN 0 ks.length sp gV E tNil tk) := by
  constructor
  intro pins s σ H Q I h
  refine wpAny_Call_Name_kw (ld_glob I hg hm ?_ hdb)
  refine PySem.W.callWith_KW0 (h₀ := X.base) I.ok.mod.kin hk hall ?_ hpl
  refine thn (hkw.run pos pins s σ H _ I h) fun ws s2 ⟨zs, H2, I2, rz, l1, l2, q2⟩ => ⟨I2.kIn, ?_⟩
  rw [hks]
  exact L2.run_fnN (us := []) (vs := []) F hr hb hx I2 .nil rz rfl l2 q2
end Pd

set_option maxHeartbeats 4000000
namespace Pd
open PySem PySem.Spec PyProof.Rows L2
/-! ### raw values of local names, through calls -/
theorem Holds.at' {X : Cx} {s s' : Shared} {x : Str} {u : Value} (h : Holds X s x u) (e : ∀ o, s.heap.get? X.env.locals = some o → ∃ sl, s'.heap.get? X.env.locals = some { o with slots := sl }) : Holds X s' x u := by
  obtain ⟨kd, m, ⟨o, es, ep, h1, h2, h3, h4⟩, hm⟩ := h
  obtain ⟨sl, e1⟩ := e o h1
  exact ⟨kd, m, ⟨_, es, ep, e1, h2, h3, h4⟩, hm⟩
theorem Holds.up {X : Cx} {s s' : Shared} {x : Str} {u : Value} (h : Holds X s x u) (k : ∀ b o, s.heap.get? b = some o → s'.heap.get? b = some o) : Holds X s' x u := h.at' fun o e => ⟨o.slots, k _ _ e⟩
/-- an expression that leaves the local names as they are -/
structure PEH (X : Cx) (e : Expr) (t : TE) : Prop where
  run : ∀ (pins : List (Addr × Obj)) (s : Shared) (σ : L2.St) (H : Hp) (Q : VK), Inv X pins σ H s → t σ H Q →
    wpAny (model X.prog X.w) X.A (eval e X.env) (fun u s' => EP X pins σ Q u s' ∧ ∀ x w, Holds X s x w → Holds X s' x w) X.xe s
structure PAH (X : Cx) (es : List Expr) (t : TA) : Prop where
  run : ∀ (pos : Pos) (pins : List (Addr × Obj)) (s : Shared) (σ : L2.St) (H : Hp) (Q : List V → Hp → Prop), Inv X pins σ H s → t σ H Q →
    wpAny (model X.prog X.w) X.A (spliced (backTo pos (starEach es X.env))) (fun us s' => AP X pins σ Q us s' ∧ ∀ x w, Holds X s x w → Holds X s' x w) X.xe s
section
variable {X : Cx} {a b e : Expr} {es : List Expr} {ta tb te : TE} {tl : TA} {pos p : Pos}
theorem peh_int {n : Int} {j : Nat} : PEH X (.Constant (.int n) j pos) (tC (.int n)) :=
  ⟨fun pins s σ H Q I q => wpAny_Constant_int ⟨⟨.int n, H, I.tok _, ⟨_, rfl⟩, q⟩, fun x w h => h.up fun _ _ z => z⟩⟩
theorem peh_local {i : Nat} {x : Str} (hN : X.N[i]? = some x) (hv : X.env.scope.names.lookup x = some .local) (hd : (x == ("__debug__" : Str)) = false := by decide) : PEH X (.Name x pos) (tVar i) := by
  constructor
  intro pins s σ H Q I h
  obtain ⟨v, hσ, q⟩ := h
  obtain ⟨m, hn, hl⟩ := I.loc
  obtain ⟨u, r, l⟩ := hl i x _ hN hσ (.inl hv)
  rcases l with ⟨hk, hm⟩ | ⟨hk, _⟩
  · exact wpAny_Name (wpAny_loadName_local I.ok.kind hk hn hm ⟨⟨v, H, I, r, q⟩, fun _ _ z => z⟩) hd
  · have hv' : X.env.kindOf x = some .local := hv
    rw [hv'] at hk
    rcases hk with hk | hk <;> cases hk
theorem peh_add (ha : PEH X a ta) (hb : PEH X b tb) : PEH X (.BinOp a .Add b pos) (tOp (rI0 fun i j => .int (i + j)) ta tb) := by
  constructor
  intro pins s σ H Q I h
  refine wpAny_BinOp (thn (ha.run pins s σ H _ I h) ?_)
  rintro u s1 ⟨⟨x, H1, I1, r1, q1⟩, k1⟩
  refine thn (hb.run pins s1 σ H1 _ I1 q1) ?_
  rintro w s2 ⟨⟨y, H2, I2, r2, i, j, rfl, rfl, q⟩, k2⟩
  obtain ⟨t, rfl⟩ := r1
  obtain ⟨t', rfl⟩ := r2
  exact PyProof.Rows.add_int ⟨⟨.int (i + j), H2, I2.tok _, ⟨_, rfl⟩, q⟩, fun x w h => (k2 x w (k1 x w h)).up fun _ _ z => z⟩
theorem pah_nil : PAH X [] tNil := ⟨fun _ _ _ _ H Q I h => Calls.spliced_nil ⟨⟨[], H, I, .nil, h⟩, fun _ _ z => z⟩⟩
theorem pah_cons (ha : PEH X e te) (hr : PAH X es tl) (hs : starEach (e :: es) X.env = (false, eval e X.env) :: starEach es X.env := by rfl) : PAH X (e :: es) (tCons te tl) := by
  constructor
  intro pos pins s σ H Q I h
  rw [hs]
  show wpAny _ _ (spliced ((false, eval e X.env) :: backTo pos (starEach es X.env))) _ _ s
  refine Calls.spliced_cons (thn (ha.run pins s σ H _ I h) ?_)
  rintro w s1 ⟨⟨x, H1, I1, r1, q1⟩, k1⟩
  refine thn (hr.run pos pins s1 σ H1 _ I1 q1) ?_
  rintro us s2 ⟨⟨xs, H2, I2, r2, q2⟩, k2⟩
  exact ⟨⟨x :: xs, H2, I2, .cons r1 r2, q2⟩, fun x w h => k2 x w (k1 x w h)⟩
theorem peh_call {k : Nat} {f : Addr} {sp : Sp} {x : Str} {E : XK} (F : FnR X.prog X.w X.K X.mg X.base CX0 k f sp) (hr : Room k X.A) (hg : Gl X x) (hm : X.mg x = some (.ref f)) (hk : PySem.W.keepIn X.K (.ref f) = true)
    (ha : PAH X (e :: es) tl) (hdb : (x == ("__debug__" : Str)) = false := by decide) (he : starEach (e :: es) X.env = (false, eval e X.env) :: starEach es X.env := by rfl) (hpl : (backTo pos (starEach es X.env)).any (·.1) = false := by rfl) :
    PEH X (.Call (.Name x p) (e :: es) [] pos) (tCall sp [] E tl) := by
  constructor
  intro pins s σ H Q I h
  refine wpAny_Call_Name_kw (ld_glob I hg hm ?_ hdb)
  refine PySem.W.callWith_K (h₀ := X.base) I.ok.mod.kin hk (thn (ha.run pos pins s σ H _ I h) ?_) he hpl
  rintro us s1 ⟨⟨vs, H1, I1, r, q⟩, k1⟩
  rw [List.append_nil] at q
  refine ⟨I1.kIn, wpAny_call (codeAny_mono (F X.A X.stack s1 H1 us vs Q E hr I1.env0 r q) fun r s' hq => ?_)⟩
  cases r with
  | error e => exact pass0 pins σ H1 s1 e s' I1 hq
  | ok fl =>
    cases fl with
    | ret w =>
      have hq' : CE X.stack X.prog X.w H1 s1 Q w s' := hq
      obtain ⟨v, H', os, bare, un, hok, rv, q'⟩ := id hq'
      exact ⟨I1.after hq', fun x w h => (k1 x w h).at' fun o e => un.any e I1.free (by simp)⟩
    | next => exact False.elim hq
    | brk => exact False.elim hq
    | cont => exact False.elim hq
end
/-- a local name that holds an int -/
theorem name_int {X : Cx} {pins : List (Addr × Obj)} {σ : L2.St} {H : Hp} {s : Shared} {i : Nat} {x : Str} {n : Int} {pos : Pos} {Q E : Value → Shared → Prop} (hN : X.N[i]? = some x) (hv : X.env.scope.names.lookup x = some .local) (I : Inv X pins σ H s)
    (hσ : σ[i]? = some (some (.int n))) (q : ∀ t, Q (.int n t) s) (hd : (x == ("__debug__" : Str)) = false := by decide) : wpAny (model X.prog X.w) X.A (eval (.Name x pos) X.env) Q E s := by
  obtain ⟨m, hn, hl⟩ := I.loc
  obtain ⟨u, r, l⟩ := hl i x _ hN hσ (.inl hv)
  obtain ⟨t, rfl⟩ := r
  rcases l with ⟨hk, hm⟩ | ⟨hk, _⟩
  · exact wpAny_Name (wpAny_loadName_local I.ok.kind hk hn hm (q t)) hd
  · have hv' : X.env.kindOf x = some .local := hv
    rw [hv'] at hk
    rcases hk with hk | hk <;> cases hk
/-- a list of texts of unlike tokens, all below b -/
def TxtsB (b : Nat) (H : Hp) (a : Addr) (cs : List Str) : Prop :=
  ∃ (its : List Value) (n m k : Nat), H a = some (.frz { cls := .type "list", data := .seq its.toArray n } (.lst (cs.map V.str))) ∧ TkL m k cs its ∧ 1 ≤ m ∧ k ≤ b
theorem TxtsB.txts {b : Nat} {H : Hp} {a : Addr} {cs : List Str} (h : TxtsB b H a cs) : TxtsAt H a cs := by
  obtain ⟨its, n, m, k, e, t, l, _⟩ := h
  exact ⟨its, n, m, k, e, t, l⟩
theorem TxtsB.same {b : Nat} {H H' : Hp} {a : Addr} {cs : List Str} (h : TxtsB b H a cs) (e : H' a = H a) : TxtsB b H' a cs := by
  obtain ⟨its, n, m, k, e1, r⟩ := h
  exact ⟨its, n, m, k, e.trans e1, r⟩
/-- ('once', a), its text's token below b -/
def OnceB (b : Nat) (H : Hp) (p : Addr) (a : Str) : Prop :=
  ∃ (n : Nat) (t0 t : Tok), H p = some (.frz { cls := .type "tuple", data := .seq #[.str "once" t0, .str a t] n } (.tup [.str "once", .str a])) ∧ t ≠ 0 ∧ t < b
/-- way, one, two = ..; if way == 2: ..; cut = ('cut', ..); return [.., .., (), .., .., cut][way] -/
def tSix (iw io it ic ig : Nat) (t1 ti ti2 tc : TE) (t0 : TS) : TS := fun D σ H => t1 σ H fun x H1 => ∃ (n : Int) (a : Addr) (cs : List Str) (b : Nat), x = .int n ∧ 0 ≤ n ∧ n < 6 ∧ σ[ig]? = some (some (.ref a)) ∧ cs.length ≤ 1000 ∧ TxtsB b H1 a cs ∧
  ti σ H1 fun y H2 => ∃ (i : Int) (c : Str), y = .int i ∧ H2 a = H1 a ∧ 0 ≤ i ∧ cs[i.toNat]? = some c ∧
  ti2 σ H2 fun y2 H3 => ∃ (j : Int) (d : Str), y2 = .int j ∧ H3 a = H2 a ∧ 0 ≤ j ∧ cs[j.toNat]? = some d ∧
  (n = 2 → t0 { D with nx := fun _ _ => False } (((σ.set iw (some (.int n))).set io (some (.str c))).set it (some (.str d))) H3) ∧
  (n ≠ 2 → tc (((σ.set iw (some (.int n))).set io (some (.str c))).set it (some (.str d))) H3 fun z H4 => ∃ m : Int, z = .int m ∧ ∀ q, H4 q = none →
    (n = 5 → D.rt (.ref q) (upd H4 q (.tup [.str "cut", .int m]))) ∧ ∀ p, p ≠ q → H4 p = none →
    (n = 0 → D.rt (.ref p) (upd (upd H4 q (.tup [.str "cut", .int m])) p (.tup [.str "lower"]))) ∧
    (n = 1 → ∀ H6, SwapAt H6 p c d → (∀ b', b' ≠ p → H6 b' = (upd H4 q (.tup [.str "cut", .int m])) b') → D.rt (.ref p) H6) ∧
    (n = 3 → D.rt (.ref p) (upd (upd H4 q (.tup [.str "cut", .int m])) p (.tup [.str "lead", .str c]))) ∧
    (n = 4 → ∀ H6, OnceB b H6 p c → (∀ b', b' ≠ p → H6 b' = (upd H4 q (.tup [.str "cut", .int m])) b') → D.rt (.ref p) H6))
theorem TkL.got {n m i : Nat} {c : Str} {t : Nat} {cs : List Str} {us : List Value} (h : TkL n m cs us) (e1 : cs[i]? = some c) (e2 : us[i]? = some (.str c t)) : n ≤ t ∧ t < m := by
  obtain ⟨t', e3, l1, l2⟩ := h.get e1
  rw [e2] at e3
  cases e3
  exact ⟨l1, l2⟩
/-- s' is s with new objects and tokens -/
structure Nw (X : Cx) (s s' : Shared) : Prop where
  k : ∀ b u, s.heap.get? b = some u → s'.heap.get? b = some u
  sz : s.heap.objs.size ≤ s'.heap.objs.size
  eq : s' = { s with heap := s'.heap, toks := s'.toks }
theorem Nw.inv {X : Cx} {s s' : Shared} (n : Nw X s s') {pins : List (Addr × Obj)} {σ : L2.St} {H : Hp} (I : Inv X pins σ H s) : Inv X pins σ H s' := by
  rw [n.eq]
  exact I.kept n.k
theorem Nw.trans {X : Cx} {s s' s'' : Shared} (a : Nw X s s') (b : Nw X s' s'') : Nw X s s'' := ⟨fun c u z => b.k c u (a.k c u z), Nat.le_trans a.sz b.sz, by
  have e := b.eq
  rw [a.eq] at e
  exact e⟩
theorem Nw.push {X : Cx} {s : Shared} {o : Obj} {t : Nat} : Nw X s { s with heap := s.heap.push o, toks := t } := ⟨fun _ _ z => Heap.get?_push_of_some _ z, by show _ ≤ (s.heap.push o).objs.size; rw [Heap.size_push]; exact Nat.le_succ _, rfl⟩
def tupO (us : List Value) : Obj := { cls := .type "tuple", data := .seq us.toArray }
section
variable {X : Cx} {s : Shared} {R E : Value → Shared → Prop} {w : Str} {j k : Nat} {c p a b : Pos} {x y : Str} {u v : Value}
theorem tup_w1 (hst : starEach [.Constant (.str w) j c] X.env = [(false, eval (.Constant (.str w) j c) X.env)]) (fin : ∀ s' t, Nw X s s' → s'.heap.get? s.heap.objs.size = some (tupO [.str w t]) → R (.ref s.heap.objs.size) s') :
    wpAny (model X.prog X.w) X.A (eval (.Tuple [.Constant (.str w) j c] k p) X.env) R E s := by
  refine Tuple_ ?_
  rw [hst]
  show wpAny _ _ (spliced [(false, eval (.Constant (.str w) j c) X.env)]) _ _ _
  exact Calls.spliced_cons (Calls.Constant_str (Calls.spliced_nil (wpAny_newTuple (fin _ _ .push (Heap.get?_push_size _ rfl)) (by show 1 ≤ sizeLine; decide))))
theorem tup_w0 (fin : ∀ s', Nw X s s' → R (.ref s.heap.objs.size) s') : wpAny (model X.prog X.w) X.A (eval (.Tuple [] k p) X.env) R E s :=
  Tuple_ (Calls.spliced_nil (wpAny_newTuple (fin _ .push) (by show 0 ≤ sizeLine; decide)))
theorem tup_w2 {pins : List (Addr × Obj)} {σ : L2.St} {H : Hp} (I : Inv X pins σ H s) (K : Holds X s x u) (hd : (x == ("__debug__" : Str)) = false) (hst : starEach [.Constant (.str w) j c, .Name x a] X.env = [(false, eval (.Constant (.str w) j c) X.env), (false, eval (.Name x a) X.env)])
    (fin : ∀ s' t, Nw X s s' → s'.heap.get? s.heap.objs.size = some (tupO [.str w t, u]) → R (.ref s.heap.objs.size) s') :
    wpAny (model X.prog X.w) X.A (eval (.Tuple [.Constant (.str w) j c, .Name x a] k p) X.env) R E s := by
  refine Tuple_ ?_
  rw [hst]
  show wpAny _ _ (spliced ((false, eval (.Constant (.str w) j c) X.env) :: [(false, eval (.Name x a) X.env)])) _ _ _
  exact Calls.spliced_cons (Calls.Constant_str (Calls.spliced_cons ((K.tok _).load (I.tok _) (Calls.spliced_nil (wpAny_newTuple (fin _ _ .push (Heap.get?_push_size _ rfl)) (by show 2 ≤ sizeLine; decide))) hd)))
theorem tup_w3 {pins : List (Addr × Obj)} {σ : L2.St} {H : Hp} (I : Inv X pins σ H s) (K : Holds X s x u) (K2 : Holds X s y v) (hd : (x == ("__debug__" : Str)) = false) (hd2 : (y == ("__debug__" : Str)) = false)
    (hst : starEach [.Constant (.str w) j c, .Name x a, .Name y b] X.env = [(false, eval (.Constant (.str w) j c) X.env), (false, eval (.Name x a) X.env), (false, eval (.Name y b) X.env)])
    (fin : ∀ s' t, Nw X s s' → s'.heap.get? s.heap.objs.size = some (tupO [.str w t, u, v]) → R (.ref s.heap.objs.size) s') :
    wpAny (model X.prog X.w) X.A (eval (.Tuple [.Constant (.str w) j c, .Name x a, .Name y b] k p) X.env) R E s := by
  refine Tuple_ ?_
  rw [hst]
  show wpAny _ _ (spliced ((false, eval (.Constant (.str w) j c) X.env) :: (false, eval (.Name x a) X.env) :: [(false, eval (.Name y b) X.env)])) _ _ _
  exact Calls.spliced_cons (Calls.Constant_str (Calls.spliced_cons ((K.tok _).load (I.tok _) (Calls.spliced_cons ((K2.tok _).load (I.tok _) (Calls.spliced_nil (wpAny_newTuple (fin _ _ .push (Heap.get?_push_size _ rfl)) (by show 3 ≤ sizeLine; decide))) hd2)) hd)))
end
/-- [('lower',), ('swap', one, two), (), ('lead', one), ('once', one), cut][way] -/
theorem six_ret {X : Cx} {pins : List (Addr × Obj)} {σ : L2.St} {H : Hp} {s : Shared} {R : Value → Shared → Prop} {iw ic : Nat} {wx ox tx cx : Str} {k2 k3 k4 k5 k6 : Nat} {j2 j3 j4 j5 : Nat} {d1 d2 d3 d4 d5 d6 d7 d8 d9 d10 d11 d12 d13 d14 d15 d16 d17 : Pos} {c d : Str} {t t2 : Tok} {n : Int} {q : Addr}
    (hw : X.N[iw]? = some wx) (hcu : X.N[ic]? = some cx) (lw : X.env.scope.names.lookup wx = some .local) (lc : X.env.scope.names.lookup cx = some .local) (I : Inv X pins σ H s) (Ko : Holds X s ox (.str c t)) (Kt : Holds X s tx (.str d t2))
    (sw : σ[iw]? = some (some (.int n))) (sc : σ[ic]? = some (some (.ref q))) (n0 : 0 ≤ n) (n6 : n < 6) (ne2 : n ≠ 2)
    (dw : (wx == ("__debug__" : Str)) = false) (dO : (ox == ("__debug__" : Str)) = false) (dt : (tx == ("__debug__" : Str)) = false) (dc : (cx == ("__debug__" : Str)) = false)
    (hs1 : starEach [.Constant (.str "lower") j2 d1] X.env = [(false, eval (.Constant (.str "lower") j2 d1) X.env)])
    (hs2 : starEach [.Constant (.str "swap") j3 d3, .Name ox d4, .Name tx d5] X.env = [(false, eval (.Constant (.str "swap") j3 d3) X.env), (false, eval (.Name ox d4) X.env), (false, eval (.Name tx d5) X.env)])
    (hs3 : starEach [.Constant (.str "lead") j4 d8, .Name ox d9] X.env = [(false, eval (.Constant (.str "lead") j4 d8) X.env), (false, eval (.Name ox d9) X.env)])
    (hs4 : starEach [.Constant (.str "once") j5 d11, .Name ox d12] X.env = [(false, eval (.Constant (.str "once") j5 d11) X.env), (false, eval (.Name ox d12) X.env)])
    (hs6 : starEach [.Tuple [.Constant (.str "lower") j2 d1] k2 d2, .Tuple [.Constant (.str "swap") j3 d3, .Name ox d4, .Name tx d5] k3 d6, .Tuple [] k4 d7, .Tuple [.Constant (.str "lead") j4 d8, .Name ox d9] k5 d10, .Tuple [.Constant (.str "once") j5 d11, .Name ox d12] k6 d13, .Name cx d14] X.env =
      [(false, eval (.Tuple [.Constant (.str "lower") j2 d1] k2 d2) X.env), (false, eval (.Tuple [.Constant (.str "swap") j3 d3, .Name ox d4, .Name tx d5] k3 d6) X.env), (false, eval (.Tuple [] k4 d7) X.env), (false, eval (.Tuple [.Constant (.str "lead") j4 d8, .Name ox d9] k5 d10) X.env), (false, eval (.Tuple [.Constant (.str "once") j5 d11, .Name ox d12] k6 d13) X.env), (false, eval (.Name cx d14) X.env)])
    (pix : PlainIx (.Name wx d16))
    (f5 : n = 5 → ∀ s', Inv X pins σ H s' → R (.ref q) s')
    (f0 : n = 0 → ∀ p s', H p = none → Inv X pins σ (upd H p (.tup [.str "lower"])) s' → R (.ref p) s')
    (f1 : n = 1 → ∀ p t0 s', H p = none → Inv X pins σ (upd H p (.frz (tupO [.str "swap" t0, .str c t, .str d t2]) (.tup [.str "swap", .str c, .str d]))) s' → R (.ref p) s')
    (f3 : n = 3 → ∀ p s', H p = none → Inv X pins σ (upd H p (.tup [.str "lead", .str c])) s' → R (.ref p) s')
    (f4 : n = 4 → ∀ p t0 s', H p = none → Inv X pins σ (upd H p (.frz (tupO [.str "once" t0, .str c t]) (.tup [.str "once", .str c]))) s' → R (.ref p) s') :
    wpAny (model X.prog X.w) X.A (eval (.Subscript (.List [.Tuple [.Constant (.str "lower") j2 d1] k2 d2, .Tuple [.Constant (.str "swap") j3 d3, .Name ox d4, .Name tx d5] k3 d6, .Tuple [] k4 d7, .Tuple [.Constant (.str "lead") j4 d8, .Name ox d9] k5 d10, .Tuple [.Constant (.str "once") j5 d11, .Name ox d12] k6 d13, .Name cx d14] d15) (.Name wx d16) d17) X.env) R X.xe s := by
  refine Subscript_ (wpAny_List_spliced ?_)
  rw [hs6]
  show wpAny _ _ (spliced ((false, eval (.Tuple [.Constant (.str "lower") j2 d1] k2 d2) X.env) :: (false, eval (.Tuple [.Constant (.str "swap") j3 d3, .Name ox d4, .Name tx d5] k3 d6) X.env) :: (false, eval (.Tuple [] k4 d7) X.env) :: (false, eval (.Tuple [.Constant (.str "lead") j4 d8, .Name ox d9] k5 d10) X.env) :: (false, eval (.Tuple [.Constant (.str "once") j5 d11, .Name ox d12] k6 d13) X.env) :: [(false, eval (.Name cx d14) X.env)])) _ _ _
  refine Calls.spliced_cons (tup_w1 hs1 fun s1 tk1 N1 g1 => ?_)
  refine Calls.spliced_cons (tup_w3 (N1.inv I) (Ko.up N1.k) (Kt.up N1.k) dO dt hs2 fun s2 tk2 N2 g2 => ?_)
  have M2 := N1.trans N2
  refine Calls.spliced_cons (tup_w0 fun s3 N3 => ?_)
  have M3 := M2.trans N3
  refine Calls.spliced_cons (tup_w2 (M3.inv I) (Ko.up M3.k) dO hs3 fun s4 tk4 N4 g4 => ?_)
  have M4 := M3.trans N4
  refine Calls.spliced_cons (tup_w2 (M4.inv I) (Ko.up M4.k) dO hs4 fun s5 tk5 N5 g5 => ?_)
  have M5 := M4.trans N5
  refine Calls.spliced_cons (name_ref hcu lc (M5.inv I) sc (Calls.spliced_nil ⟨by show 6 ≤ sizeLine; decide, ?_⟩) dc)
  have gl : (s5.heap.push { cls := .type "list", data := .seq [Value.ref s.heap.objs.size, .ref s1.heap.objs.size, .ref s2.heap.objs.size, .ref s3.heap.objs.size, .ref s4.heap.objs.size, .ref q].toArray }).get? s5.heap.objs.size = some { cls := .type "list", data := .seq [Value.ref s.heap.objs.size, .ref s1.heap.objs.size, .ref s2.heap.objs.size, .ref s3.heap.objs.size, .ref s4.heap.objs.size, .ref q].toArray } := Heap.get?_push_size _ rfl
  have N6 : Nw X s5 { s5 with heap := s5.heap.push { cls := .type "list", data := .seq [Value.ref s.heap.objs.size, .ref s1.heap.objs.size, .ref s2.heap.objs.size, .ref s3.heap.objs.size, .ref s4.heap.objs.size, .ref q].toArray } } := .push
  generalize hs6' : ({ s5 with heap := s5.heap.push { cls := .type "list", data := .seq [Value.ref s.heap.objs.size, .ref s1.heap.objs.size, .ref s2.heap.objs.size, .ref s3.heap.objs.size, .ref s4.heap.objs.size, .ref q].toArray } } : Shared) = s6 at N6 ⊢
  replace gl : s6.heap.get? s5.heap.objs.size = some { cls := .type "list", data := .seq [Value.ref s.heap.objs.size, .ref s1.heap.objs.size, .ref s2.heap.objs.size, .ref s3.heap.objs.size, .ref s4.heap.objs.size, .ref q].toArray } := by rw [← hs6']; exact gl
  clear hs6'
  have M6 := M5.trans N6
  have lst : s6.heap.IsList s5.heap.objs.size #[Value.ref s.heap.objs.size, .ref s1.heap.objs.size, .ref s2.heap.objs.size, .ref s3.heap.objs.size, .ref s4.heap.objs.size, .ref q] := ⟨_, gl, rfl, _, rfl⟩
  refine name_int hw lw (M6.inv I) sw (fun tw => ?_) dw
  have key : ∀ {p : Addr}, s.heap.objs.size ≤ p → H p = none := fun l => I.hok.fresh l
  have lay : ∀ {p : Addr} {o : HO}, s.heap.objs.size ≤ p → ObjOk X.prog X.w (upd H p o) s6.heap p o → Inv X pins σ (upd H p o) s6 := fun {p o} l w => by
    have z := I.laid (t' := s6.toks) (h' := s6.heap) M6.k l w
    rw [M6.eq]
    exact z
  have nn5 : n = 0 ∨ n = 1 ∨ n = 3 ∨ n = 4 ∨ n = 5 := by omega
  have l2 : 1 ≤ sizeLine ∧ 2 ≤ sizeLine ∧ 3 ≤ sizeLine := by decide
  rcases nn5 with rfl | rfl | rfl | rfl | rfl
  · refine item_listR lst (by decide) (by decide) (x := .ref s.heap.objs.size) rfl (f0 rfl _ _ (key (Nat.le_refl _)) (lay (Nat.le_refl _) ⟨l2.1, [.str "lower" tk1], .cons ⟨_, rfl⟩ .nil, ⟨_, ((((N2.trans N3).trans N4).trans N5).trans N6).k _ _ g1, rfl, _, rfl⟩⟩)) (pix _ _)
  · refine item_listR lst (by decide) (by decide) (x := .ref s1.heap.objs.size) rfl (f1 rfl _ tk2 _ (key N1.sz) (lay N1.sz ?_)) (pix _ _)
    have g := (((N3.trans N4).trans N5).trans N6).k _ _ g2
    exact ⟨g, l2.2.2, [.str "swap" tk2, .str c t, .str d t2], .cons ⟨_, rfl⟩ (.cons ⟨_, rfl⟩ (.cons ⟨_, rfl⟩ .nil)), ⟨_, g, rfl, _, rfl⟩⟩
  · exact item_listR lst (by decide) (by decide) (x := .ref s3.heap.objs.size) rfl (f3 rfl _ _ (key M3.sz) (lay M3.sz ⟨l2.2.1, [.str "lead" tk4, .str c t], .cons ⟨_, rfl⟩ (.cons ⟨_, rfl⟩ .nil), ⟨_, (N5.trans N6).k _ _ g4, rfl, _, rfl⟩⟩)) (pix _ _)
  · refine item_listR lst (by decide) (by decide) (x := .ref s4.heap.objs.size) rfl (f4 rfl _ tk5 _ (key M4.sz) (lay M4.sz ?_)) (pix _ _)
    have g := N6.k _ _ g5
    exact ⟨g, l2.2.1, [.str "once" tk5, .str c t], .cons ⟨_, rfl⟩ (.cons ⟨_, rfl⟩ .nil), ⟨_, g, rfl, _, rfl⟩⟩
  · exact item_listR lst (by decide) (by decide) (x := .ref q) rfl (f5 rfl _ (M6.inv I)) (pix _ _)
set_option maxHeartbeats 8000000 in
theorem pss_six {X : Cx} {iw io it ic ig : Nat} {wx ox tx cx gx : Str} {e1 idx idx2 ec : Expr} {t1 ti ti2 tc : TE} {t0 : TS} {r0 : List Stmt} {k0 k1 k2 k3 k4 k5 k6 k7 : Nat} {j0 j1 j2 j3 j4 j5 : Nat}
    {a1 a2 a3 a4 a5 a6 a7 a8 a9 a10 b1 b2 b3 b4 c1 c2 c3 c4 d1 d2 d3 d4 d5 d6 d7 d8 d9 d10 d11 d12 d13 d14 d15 d16 d17 d18 : Pos} (hc : X.calm = true) (hN : X.N.Nodup)
    (hw : X.N[iw]? = some wx) (ho : X.N[io]? = some ox) (ht : X.N[it]? = some tx) (hcu : X.N[ic]? = some cx) (hg : X.N[ig]? = some gx) (n1 : iw ≠ io) (n2 : iw ≠ it) (n3 : io ≠ it) (n4 : ic ≠ iw) (n5 : ic ≠ io) (n6 : ic ≠ it)
    (lw : X.env.scope.names.lookup wx = some .local) (lo : X.env.scope.names.lookup ox = some .local) (lt : X.env.scope.names.lookup tx = some .local) (lc : X.env.scope.names.lookup cx = some .local) (lg : X.env.scope.names.lookup gx = some .local)
    (h1 : PE X e1 t1) (hi : PE X idx ti) (hi2 : PE X idx2 ti2) (p1 : PlainIx idx) (p2 : PlainIx idx2) (h0 : PSs X r0 t0) (hec : PEH X ec tc)
    (dw : (wx == ("__debug__" : Str)) = false) (dO : (ox == ("__debug__" : Str)) = false) (dt : (tx == ("__debug__" : Str)) = false) (dc : (cx == ("__debug__" : Str)) = false) (dg : (gx == ("__debug__" : Str)) = false)
    (hst : starEach [e1, .Subscript (.Name gx a1) idx a2, .Subscript (.Name gx a3) idx2 a4] X.env = [(false, eval e1 X.env), (false, eval (.Subscript (.Name gx a1) idx a2) X.env), (false, eval (.Subscript (.Name gx a3) idx2 a4) X.env)])
    (hsc : starEach [.Constant (.str "cut") j1 c1, ec] X.env = [(false, eval (.Constant (.str "cut") j1 c1) X.env), (false, eval ec X.env)])
    (hs1 : starEach [.Constant (.str "lower") j2 d1] X.env = [(false, eval (.Constant (.str "lower") j2 d1) X.env)])
    (hs2 : starEach [.Constant (.str "swap") j3 d3, .Name ox d4, .Name tx d5] X.env = [(false, eval (.Constant (.str "swap") j3 d3) X.env), (false, eval (.Name ox d4) X.env), (false, eval (.Name tx d5) X.env)])
    (hs3 : starEach [.Constant (.str "lead") j4 d8, .Name ox d9] X.env = [(false, eval (.Constant (.str "lead") j4 d8) X.env), (false, eval (.Name ox d9) X.env)])
    (hs4 : starEach [.Constant (.str "once") j5 d11, .Name ox d12] X.env = [(false, eval (.Constant (.str "once") j5 d11) X.env), (false, eval (.Name ox d12) X.env)])
    (hs6 : starEach [.Tuple [.Constant (.str "lower") j2 d1] k2 d2, .Tuple [.Constant (.str "swap") j3 d3, .Name ox d4, .Name tx d5] k3 d6, .Tuple [] k4 d7, .Tuple [.Constant (.str "lead") j4 d8, .Name ox d9] k5 d10, .Tuple [.Constant (.str "once") j5 d11, .Name ox d12] k6 d13, .Name cx d14] X.env =
      [(false, eval (.Tuple [.Constant (.str "lower") j2 d1] k2 d2) X.env), (false, eval (.Tuple [.Constant (.str "swap") j3 d3, .Name ox d4, .Name tx d5] k3 d6) X.env), (false, eval (.Tuple [] k4 d7) X.env), (false, eval (.Tuple [.Constant (.str "lead") j4 d8, .Name ox d9] k5 d10) X.env), (false, eval (.Tuple [.Constant (.str "once") j5 d11, .Name ox d12] k6 d13) X.env), (false, eval (.Name cx d14) X.env)])
    (hsw : swappedStores [.Tuple [.Name wx a5, .Name ox a6, .Name tx a7] k0 a8] (.Tuple [e1, .Subscript (.Name gx a1) idx a2, .Subscript (.Name gx a3) idx2 a4] k1 a9) X.env = pure (some [wx, ox, tx]))
    (hss : swapsWithSole [.Tuple [.Name wx a5, .Name ox a6, .Name tx a7] k0 a8] (.Tuple [e1, .Subscript (.Name gx a1) idx a2, .Subscript (.Name gx a3) idx2 a4] k1 a9) a10.line X.env = pure false)
    (hcs : swapsWith (.Tuple [.Constant (.str "cut") j1 c1, ec] k7 c2) (some (.Name cx c3)) c4.line X.env = pure false) (pix : PlainIx (.Name wx d16)) :
    PSs X [.Assign [.Tuple [.Name wx a5, .Name ox a6, .Name tx a7] k0 a8] (.Tuple [e1, .Subscript (.Name gx a1) idx a2, .Subscript (.Name gx a3) idx2 a4] k1 a9) a10,
      .If (.Compare (.Name wx b1) [.Eq] [.Constant (.int 2) j0 b2] b3) r0 [] b4,
      .Assign [.Name cx c3] (.Tuple [.Constant (.str "cut") j1 c1, ec] k7 c2) c4,
      .Return (some (.Subscript (.List [.Tuple [.Constant (.str "lower") j2 d1] k2 d2, .Tuple [.Constant (.str "swap") j3 d3, .Name ox d4, .Name tx d5] k3 d6, .Tuple [] k4 d7, .Tuple [.Constant (.str "lead") j4 d8, .Name ox d9] k5 d10, .Tuple [.Constant (.str "once") j5 d11, .Name ox d12] k6 d13, .Name cx d14] d15) (.Name wx d16) d17)) d18]
      (tSix iw io it ic ig t1 ti ti2 tc t0) := by
  constructor
  intro pins s σ H D I h
  refine wpAny_execs_cons ?_
  rw [exec_Assign_arm]
  refine wpAny_bind (wpAny_standAt ?_)
  rw [hss]
  refine wpAny_bind (wpAny_pure ?_)
  rw [if_neg (by decide)]
  refine wpAny_bind (Tuple_ ?_)
  rw [hst]
  show wpAny _ _ (spliced ((false, eval e1 X.env) :: (false, eval (.Subscript (.Name gx a1) idx a2) X.env) :: [(false, eval (.Subscript (.Name gx a3) idx2 a4) X.env)])) _ _ s
  refine Calls.spliced_cons (thn (h1.run pins s σ H _ I h) ?_)
  rintro u1 s1 ⟨x, H1, I1, r1, n, a, cs, b, rfl, hn0, hn6, hσ, hz, ⟨its, nn, m, k, hf, tk, hm, hkb⟩, h2⟩
  refine Calls.spliced_cons (pick_raw (n := nn) hg lg I1 hσ hi p1 tk hz h2 ?_ dg)
  rintro y H2 ⟨i, c, rfl, ha, h0', hcs', h3⟩
  refine ⟨i, c, rfl, ha.trans hf, h0', hcs', fun s2 t I2 e2 hmt _ => ?_⟩
  refine Calls.spliced_cons (pick_raw (n := nn) hg lg I2 hσ hi2 p2 tk hz h3 ?_ dg)
  rintro y2 H3 ⟨j, d, rfl, ha3, hj, hd, w2, wn⟩
  refine ⟨j, d, rfl, ha3.trans (ha.trans hf), hj, hd, fun s3 t2 I3 e3 hmt2 _ => Calls.spliced_nil ?_⟩
  obtain ⟨tn, rfl⟩ := r1
  refine wpAny_newObj_type ?_ (by show 3 ≤ sizeLine; decide)
  have I4 : Inv X pins σ H3 { s3 with heap := s3.heap.push { cls := .type "tuple", data := .seq [Value.int n tn, .str c t, .str d t2].toArray } } := I3.kept (t' := s3.toks) fun b o e => Heap.get?_push_of_some _ e
  rw [hsw]
  refine wpAny_bind (wpAny_pure ?_)
  show wpAny (model X.prog X.w) X.A (do rule "assign.swapped-stores"; let items ← unpackItems (.ref s3.heap.objs.size) 3 none; assignInOrder [fun v => bindName X.env tx v, fun v => bindName X.env ox v, fun v => bindName X.env wx v] items.reverse; pure Flow.next) _ _ _
  refine wpAny_bind (wpAny_rule (wpAny_bind (unpackItems_tuple (items := #[Value.int n tn, .str c t, .str d t2]) (I.ok.hd hc) (IsTup.new s3.heap _) fun g hx' => ?_)))
  have I5 := I4.kept (h' := g) (t' := s3.toks) fun b o e => hx' b o (Nat.ne_of_lt (Heap.lt_size e)) e
  show wpAny _ _ (assignInOrder [fun v => bindName X.env tx v, fun v => bindName X.env ox v, fun v => bindName X.env wx v] [Value.str d t2, .str c t, .int n tn] >>= fun _ => pure Flow.next) _ _ _
  refine wpAny_bind (assignInOrder_cons (wpAny_bindName (store_raw (v := V.str d) I5 hN ht lt ⟨t2, rfl⟩ fun s5 I6 K6 _ _ => ?_)))
  refine assignInOrder_cons (wpAny_bindName (store_raw (v := V.str c) I6 hN ho lo ⟨t, rfl⟩ fun s6 I7 K7 keep7 _ => ?_))
  refine assignInOrder_cons (wpAny_bindName (store_raw (v := V.int n) I7 hN hw lw ⟨tn, rfl⟩ fun s7 I8 _ keep8 _ => assignInOrder_nil (wpAny_pure ?_)))
  have neq : ∀ {p q : Nat} {z z' : Str}, X.N[p]? = some z → X.N[q]? = some z' → p ≠ q → z ≠ z' := fun e1 e2 ne e => ne (nodup_ix hN e1 (e ▸ e2))
  have Kt : Holds X s7 tx (.str d t2) := keep8 tx _ (neq ht hw (Ne.symm n2)) (keep7 tx _ (neq ht ho (Ne.symm n3)) K6)
  have Ko : Holds X s7 ox (.str c t) := keep8 ox _ (neq ho hw (Ne.symm n1)) K7
  rw [List.set_comm _ _ (Ne.symm n3), List.set_comm _ _ (Ne.symm n2), List.set_comm _ _ (Ne.symm n1)] at I8
  have hl : σ.length = X.N.length := I.len
  have bd : ∀ {p : Nat} {z : Str}, X.N[p]? = some z → p < σ.length := fun e => by rw [hl]; exact (List.getElem?_eq_some_iff.mp e).1
  have sw : (((σ.set iw (some (V.int n))).set io (some (.str c))).set it (some (.str d)))[iw]? = some (some (.int n)) := by
    rw [List.getElem?_set_ne (Ne.symm n2), List.getElem?_set_ne (Ne.symm n1), List.getElem?_set_self (bd hw)]
  have lσ : (((σ.set iw (some (V.int n))).set io (some (.str c))).set it (some (.str d))).length = σ.length := by simp
  generalize hS : ((σ.set iw (some (V.int n))).set io (some (V.str c))).set it (some (V.str d)) = σ' at *
  -- if way == 2
  refine wpAny_execs_cons (wpAny_If (test_int hw lw I8 sw ?_ dw))
  by_cases e0 : n = 2
  · have e : (n == 2) = true := by simp [e0]
    rw [e]
    refine thn (h0.run pins _ σ' H3 _ (I8.tok _) (w2 e0)) fun f s9 q => ?_
    cases f with
    | next => obtain ⟨_, _, _, z⟩ := q; exact z.elim
    | ret v => exact q
    | brk => exact q
    | cont => exact q
  have e : (n == 2) = false := by simp [e0]
  rw [e]
  refine wpAny_execs_nil ?_
  -- cut = ..
  refine wpAny_execs_cons (wpAny_Assign_Name (Tuple_ ?_) hcs)
  rw [hsc]
  show wpAny _ _ (spliced ((false, eval (.Constant (.str "cut") j1 c1) X.env) :: [(false, eval ec X.env)])) _ _ _
  refine Calls.spliced_cons (Calls.Constant_str (Calls.spliced_cons ?_))
  refine thn (hec.run pins _ σ' H3 _ ((I8.tok _).tok _) (wn e0)) ?_
  rintro uc s10 ⟨⟨z, H4, I10, rz, mm, rfl, fin⟩, kh⟩
  obtain ⟨tm, rfl⟩ := rz
  have Kt10 : Holds X s10 tx (.str d t2) := kh tx _ ((Kt.tok _).tok _)
  have Ko10 : Holds X s10 ox (.str c t) := kh ox _ ((Ko.tok _).tok _)
  refine Calls.spliced_nil (wpAny_newTuple ?_ (by show 2 ≤ sizeLine; decide))
  have nq : H4 s10.heap.objs.size = none := I10.hok.fresh (Nat.le_refl _)
  obtain ⟨f5, fp⟩ := fin _ nq
  have I11 : Inv X pins σ' (upd H4 s10.heap.objs.size (.tup [.str "cut", .int mm])) { s10 with heap := s10.heap.push { cls := .type "tuple", data := .seq [Value.str "cut" (s7.toks + 1), .int mm tm].toArray } } :=
    I10.laid (t' := s10.toks) (fun b o q => Heap.get?_push_of_some _ q) (Nat.le_refl _) ⟨by show 2 ≤ sizeLine; decide, [.str "cut" _, .int mm tm], .cons ⟨_, rfl⟩ (.cons ⟨_, rfl⟩ .nil), ⟨_, Heap.get?_push_size _ rfl, rfl, _, rfl⟩⟩
  generalize hq : s10.heap.objs.size = q at *
  have Kt11 := Kt10.up (s' := { s10 with heap := s10.heap.push { cls := .type "tuple", data := .seq [Value.str "cut" (s7.toks + 1), .int mm tm].toArray } }) fun b o z => Heap.get?_push_of_some _ z
  have Ko11 := Ko10.up (s' := { s10 with heap := s10.heap.push { cls := .type "tuple", data := .seq [Value.str "cut" (s7.toks + 1), .int mm tm].toArray } }) fun b o z => Heap.get?_push_of_some _ z
  refine store_raw (v := V.ref q) I11 hN hcu lc rfl fun s12 I12 _ keep12 _ => ?_
  have Kt12 : Holds X s12 tx (.str d t2) := keep12 tx _ (neq ht hcu (Ne.symm n6)) Kt11
  have Ko12 : Holds X s12 ox (.str c t) := keep12 ox _ (neq ho hcu (Ne.symm n5)) Ko11
  have scu : (σ'.set ic (some (V.ref q)))[ic]? = some (some (.ref q)) := List.getElem?_set_self (by rw [lσ]; exact bd hcu)
  have sw12 : (σ'.set ic (some (V.ref q)))[iw]? = some (some (.int n)) := by rw [List.getElem?_set_ne n4]; exact sw
  -- return [..][way]
  obtain ⟨mt1, mt2⟩ := tk.got hcs' e2
  obtain ⟨mu1, mu2⟩ := tk.got hd e3
  have t0 : t ≠ 0 := Nat.ne_of_gt (Nat.lt_of_lt_of_le hm mt1)
  have u0 : t2 ≠ 0 := Nat.ne_of_gt (Nat.lt_of_lt_of_le hm mu1)
  have tu : t = t2 → c = d := fun z => by subst z; exact tk.inj e2 e3
  have spl : ∀ {p : Addr}, (upd H4 q (.tup [V.str "cut", .int mm])) p = none → p ≠ q ∧ H4 p = none := fun {p} z => by
    have ne : p ≠ q := by rintro rfl; rw [upd_same] at z; cases z
    exact ⟨ne, by rw [upd_ne ne] at z; exact z⟩
  refine wpAny_execs_cons (wpAny_Return_some (six_ret hw hcu lw lc I12 Ko12 Kt12 sw12 scu hn0 hn6 e0 dw dO dt dc hs1 hs2 hs3 hs4 hs6 pix ?_ ?_ ?_ ?_ ?_))
  · exact fun e s' J => ⟨.ref q, _, _, J, rfl, f5 e⟩
  · intro e p s' hp J
    obtain ⟨ne, hp'⟩ := spl hp
    exact ⟨.ref p, _, _, J, rfl, (fp p ne hp').1 e⟩
  · intro e p tk0 s' hp J
    obtain ⟨ne, hp'⟩ := spl hp
    exact ⟨.ref p, _, _, J, rfl, (fp p ne hp').2.1 e _ ⟨0, tk0, t, t2, upd_same, t0, u0, tu⟩ fun b' hb' => upd_ne hb'⟩
  · intro e p s' hp J
    obtain ⟨ne, hp'⟩ := spl hp
    exact ⟨.ref p, _, _, J, rfl, (fp p ne hp').2.2.1 e⟩
  · intro e p tk0 s' hp J
    obtain ⟨ne, hp'⟩ := spl hp
    exact ⟨.ref p, _, _, J, rfl, (fp p ne hp').2.2.2 e _ ⟨0, tk0, t, upd_same, t0, Nat.lt_of_lt_of_le mt2 hkb⟩ fun b' hb' => upd_ne hb'⟩
end Pd

set_option maxHeartbeats 4000000
namespace Pd
open PySem PySem.Spec PyProof.Rows L2
/-! ### defs that tell a number below which no token is to come -/
abbrev SpU := List V → Hp → (Nat → VK) → Prop
def FnU (P : Program) (w : World) (K : PySem.W.Frag) (mg : Str → Option Value) (base : Heap) (k : Nat) (f : Addr) (sp : SpU) : Prop :=
  ∀ (A : Around) (outer : List Env) (s : Shared) (H : Hp) (us : List Value) (vs : List V) (Q : Nat → VK) (E : XK), Room k A → Env0 P w K mg base A outer s H → Vals vs us → sp vs H Q →
    codeAny (model P w) A (.call (.ref f) ⟨us, []⟩) (fun r s' => ∃ b, b ≤ s'.toks ∧ CR CX0 outer P w H s (Q b) E r s') s
theorem CR.mono {outer : List Env} {P : Program} {w : World} {H : Hp} {s s' : Shared} {Q Q' : VK} {E : XK} {r : Result} (h : CR CX0 outer P w H s Q E r s') (k : ∀ v H', Q v H' → Q' v H') : CR CX0 outer P w H s Q' E r s' := by
  cases r with
  | error e => exact h
  | ok fl =>
    cases fl with
    | ret u =>
      obtain ⟨v, H', a, b, c, d, e, q⟩ := (show CE outer P w H s Q u s' from h)
      exact (show CE outer P w H s Q' u s' from ⟨v, H', a, b, c, d, e, k v H' q⟩)
    | next => exact h
    | brk => exact h
    | cont => exact h
theorem FnU.fnR {P : Program} {w : World} {K : PySem.W.Frag} {mg : Str → Option Value} {base : Heap} {k : Nat} {f : Addr} {sp : SpU} (F : FnU P w K mg base k f sp) : FnR P w K mg base CX0 k f (fun vs H Q _ => sp vs H fun _ => Q) :=
  fun A outer s H us vs Q E hr e0 r h => codeAny_mono (F A outer s H us vs (fun _ => Q) E hr e0 r h) fun _ _ ⟨_, _, z⟩ => z
/-- a body that returns -/
structure PSsU (X : Cx) (sts : List Stmt) (t : L2.St → Hp → (Nat → VK) → Prop) : Prop where
  run : ∀ (pins : List (Addr × Obj)) (s : Shared) (σ : L2.St) (H : Hp) (Q : Nat → VK), Inv X pins σ H s → t σ H Q →
    wpAny (model X.prog X.w) X.A (execs sts X.env) (fun f s' => ∃ u, f = .ret u ∧ ∃ v σ' H' b, Inv X pins σ' H' s' ∧ RelV v u ∧ b ≤ s'.toks ∧ Q b v H') X.xe s
theorem fnU_of {P : Program} {w : World} {K : PySem.W.Frag} {mg : Str → Option Value} {base : Heap} {x qual : Str} {st : Stmt} {f : Addr} {fd : FuncData} {N ps : List Str} {k : Nat} {sp : SpU}
    (F : Fun K x qual st f fd) (S : FnScope N ps (defScope st))
    (hb : ∀ (kV doc pm : Value) (an : Option Addr) (cdv ct : Value) (us : List Value), us.length = ps.length → bindArgs (PySem.W.fnOf x qual (defArgs st) (defBody st) (defScope st) .none kV doc pm an cdv ct) ⟨us, []⟩ = pure (ps.zip us))
    (len : ∀ vs H Q, sp vs H Q → vs.length = ps.length)
    (hbody : ∀ (cdv : Value) (A : Around) (outer : List Env) (s : Shared) (H : Hp) (vs : List V) (Q : Nat → VK) (E : XK), Room k (A.deeper (envOfC qual (defScope st) s.heap.objs.size f cdv)) → sp vs H Q →
      ∃ t, PSsU (cxOf CX0 P w K mg base N qual (defScope st) f cdv A outer s H E) (defBody st) t ∧ t (start N vs) H Q) : FnU P w K mg base (k + 1) f sp := by
  obtain ⟨oc, od, kV, doc, pm, an, cdv, ct, osl, rfl, lk, hcd⟩ := F.ex
  intro A outer s H us vs Q E hr e0 r hsp
  have hl : us.length = ps.length := r.length.symm.trans (len _ _ _ hsp)
  have KX : K.In s.heap := e0.mod.kin.keeps fun b o e => (e0.bs b o e).1
  have lim : s.heap.NoLimit := e0.mod.nolimit.keeps fun b o e => (e0.bs b o e).1
  have hkind : ∀ y ∈ ps.zip us, (defScope st).names.lookup y.1 = some .local ∨ ((defScope st).names.lookup y.1 = some .cell ∧ ((cellsFrom (s.heap.objs.size + 1) (defScope st).names []).lookup y.1).isSome = true) := fun y hy => by
    rcases S.par y.1 (List.of_mem_zip hy).1 with q | q
    · exact .inl q
    · exact .inr ⟨q, PySem.W.cellsFrom_some _ _ _ (.inl q)⟩
  refine codeAny_call_function hr.depth (KX _ _ lk) rfl S.co S.gen rfl (PySem.W.codeRec_of KX hcd) (BindsTo.of_eq (hb kV doc pm an cdv ct us hl) _ _ _ _ ?_)
  refine wpAny_mono (wpAny_newFunctionEnv_cells S.kind hkind fun env he s1 x => (⟨he, x⟩ : env = _ ∧ InCallC s _ _ _ _ s1)) ?_ fun _ _ z => z
  rintro env s1 ⟨rfl, x⟩
  refine ⟨lim.keeps x.toInCall.keep, codeAny_func ?_⟩
  obtain ⟨t, he, hq⟩ := hbody cdv A outer s H vs Q E (hr.deeper _) hsp
  have I : Inv (cxOf CX0 P w K mg base N qual (defScope st) f cdv A outer s H E) [] (start N vs) H s1 := inv_start S hr.hd e0 (len _ _ _ hsp) r x
  refine wpAny_mono (he.run [] s1 _ H _ I hq) ?_ ?_
  · rintro fl s' ⟨u, rfl, v, σ', H', b, J, rv, lb, q⟩
    exact ⟨b, lb, (show CE outer P w H s (Q b) u s' from ⟨v, H', J.os, J.bare, J.base, J.hok, rv, q⟩)⟩
  · intro e s' h
    exact wpAny_mono h (fun _ _ h => ⟨0, Nat.zero_le _, h⟩) fun _ _ h => ⟨0, Nat.zero_le _, h⟩
/-- x = f(..), f tells a number: what follows may count on it -/
def tMark (i : Nat) (sp : SpU) (ta : TA) (u : Nat → TS) : TS := fun D σ H => ta σ H fun vs H1 => sp vs H1 fun b v H2 => u b D (σ.set i (some v)) H2
theorem pss_mark {X : Cx} {i k : Nat} {x y : Str} {f : Addr} {sp : SpU} {e : Expr} {es : List Expr} {ta : TA} {u : Nat → TS} {rest : List Stmt} {p p2 pos p3 : Pos} (hN : X.N.Nodup) (hi : X.N[i]? = some x) (hx : Loc X.env.scope x)
    (F : FnU X.prog X.w X.K X.mg X.base k f sp) (hr : Room k X.A) (hg : Gl X y) (hm : X.mg y = some (.ref f)) (hk : PySem.W.keepIn X.K (.ref f) = true) (ha : PA X (e :: es) ta) (hrest : ∀ b, PSsn b X rest (u b))
    (hs : swapsWith (.Call (.Name y p) (e :: es) [] pos) (some (.Name x p2)) p3.line X.env = pure false := by rfl) (hf : X.fn x = true ∨ X.env.scope.names.lookup x = some .local := by first | exact .inl rfl | exact .inr rfl | assumption)
    (hdb : (y == ("__debug__" : Str)) = false := by decide) (he : starEach (e :: es) X.env = (false, eval e X.env) :: starEach es X.env := by rfl) (hpl : (backTo pos (starEach es X.env)).any (·.1) = false := by rfl) :
    PSs X (.Assign [.Name x p2] (.Call (.Name y p) (e :: es) [] pos) p3 :: rest) (tMark i sp ta u) := by
  constructor
  intro pins s σ H D I h
  refine wpAny_execs_cons (wpAny_Assign_Name (wpAny_Call_Name_kw (ld_glob I hg hm ?_ hdb)) hs)
  refine PySem.W.callWith_K (h₀ := X.base) I.ok.mod.kin hk (thn (ha.run pos pins s σ H _ I h) ?_) he hpl
  rintro us s1 ⟨vs, H1, I1, r, q⟩
  refine ⟨I1.kIn, wpAny_call (codeAny_mono (F X.A X.stack s1 H1 us vs _ (fun _ _ _ => False) hr I1.env0 r q) fun r s' hq => ?_)⟩
  obtain ⟨b, lb, hq⟩ := hq
  cases r with
  | error e => exact pass0 pins σ H1 s1 e s' I1 hq
  | ok fl =>
    cases fl with
    | ret w =>
      obtain ⟨v, H', J, rv, q'⟩ := I1.after hq
      refine thk lb (store_ok (Q := fun _ s2 => Inv X pins (σ.set i (some v)) H' s2) J hN hi hx rv (fun s2 I2 => I2) hf) ?_
      exact fun _ s2 l2 I2 => (hrest b).run pins s2 _ H' D l2 I2 q'
    | next => exact False.elim hq
    | brk => exact False.elim hq
    | cont => exact False.elim hq
/-! ### letter = ..; return [letter, letter.upper(), .., .., ..] -/
def tFew (z : Str) (il : Nat) (tb t1 t2 t3 : TE) : L2.St → Hp → (Nat → VK) → Prop := fun σ H Q => tItemC z tb σ H fun v1 H1 => ∃ x1 : Str, v1 = .str x1 ∧ x1.length ≤ 1000 ∧
  t1 (σ.set il (some (.str x1))) H1 fun y1 H2 => ∃ c1 : Str, y1 = .str c1 ∧ t2 (σ.set il (some (.str x1))) H2 fun y2 H3 => ∃ c2 : Str, y2 = .str c2 ∧ t3 (σ.set il (some (.str x1))) H3 fun y3 H4 => ∃ c3 : Str, y3 = .str c3 ∧
    ∀ b p H5, H4 p = none → TxtsB b H5 p [x1, Txt.upper x1, c1, c2, c3] → (∀ b', b' ≠ p → H5 b' = H4 b') → Q b (.ref p) H5
theorem pss_few {X : Cx} {z : Str} {il : Nat} {lx : Str} {b1 e1 e2 e3 : Expr} {tb t1 t2 t3 : TE} {j1 : Nat} {a1 c1 d1 p1 q1 q2 q3 q4 d3 p3 : Pos} (hN : X.N.Nodup) (hl : X.N[il]? = some lx)
    (ll : X.env.scope.names.lookup lx = some .local) (h0 : PE X b1 tb) (s1 : PlainIxT b1) (h1 : PEF X e1 t1) (h2 : PEF X e2 t2) (h3 : PEF X e3 t3) (dl : (lx == ("__debug__" : Str)) = false)
    (hs1 : swapsWith (.Subscript (.Constant (.str z) j1 c1) b1 d1) (some (.Name lx a1)) p1.line X.env = pure false)
    (hst : starEach [.Name lx q1, .Call (.Attribute (.Name lx q2) "upper" q3) [] [] q4, e1, e2, e3] X.env =
      [(false, eval (.Name lx q1) X.env), (false, eval (.Call (.Attribute (.Name lx q2) "upper" q3) [] [] q4) X.env), (false, eval e1 X.env), (false, eval e2 X.env), (false, eval e3 X.env)])
    (hbase : attributeBase (.Name lx q2) "upper" X.env (eval (.Name lx q2) X.env) = eval (.Name lx q2) X.env) (hline : (q3.endLine == q4.line) = true) :
    PSsU X [.Assign [.Name lx a1] (.Subscript (.Constant (.str z) j1 c1) b1 d1) p1,
      .Return (some (.List [.Name lx q1, .Call (.Attribute (.Name lx q2) "upper" q3) [] [] q4, e1, e2, e3] d3)) p3] (tFew z il tb t1 t2 t3) := by
  constructor
  intro pins s σ H Q I h
  refine wpAny_execs_cons (wpAny_Assign_Name (thn ((pef_item h0 s1).run pins s σ H _ I h) ?_) hs1)
  rintro u1 t1' ⟨⟨v1, H1, I1, r1, x1, rfl, hx1, h'⟩, l1, y1, k1, rfl, k1a, k1b⟩
  obtain rfl : y1 = x1 := by obtain ⟨_, e⟩ := r1; injection e
  refine store_raw (v := V.str y1) I1 hN hl ll r1 fun t2' I2 K2 _ l2 => ?_
  refine wpAny_execs_cons (wpAny_Return_some (wpAny_List_spliced ?_))
  rw [hst]
  show wpAny _ _ (spliced ((false, eval (.Name lx q1) X.env) :: (false, eval (.Call (.Attribute (.Name lx q2) "upper" q3) [] [] q4) X.env) :: (false, eval e1 X.env) :: (false, eval e2 X.env) :: [(false, eval e3 X.env)])) _ _ _
  refine Calls.spliced_cons (K2.load I2 (Calls.spliced_cons ?_) dl)
  refine PySem.Call_method0 hbase hline (K2.load I2 ?_ dl)
  refine ⟨"str", _, F.plainAttrs_str, F.slot_str_upper, F.type_str_upper, typeIs_str _ _ _, (fun _ e => nomatch e), Calls.callWith_builtin rfl (PySem.evalArgs_none ?_)⟩
  have fit : Builtin.Str.tooLong (Txt.upper y1).length = false := PyProof.Rows.short24 (by have := PyProof.Rows.len_upper y1; omega)
  refine PySem.SC.upper fit (Calls.spliced_cons ?_)
  refine thn (h1.run pins _ _ H1 _ (I2.tok _) h') ?_
  rintro u3 t3' ⟨⟨w1, H2, I3, r3, c1', rfl, g2⟩, m1, z1, n1, rfl, n1a, n1b⟩
  obtain rfl : z1 = c1' := by obtain ⟨_, e⟩ := r3; injection e
  refine Calls.spliced_cons (thn (h2.run pins _ _ H2 _ I3 g2) ?_)
  rintro u4 t4' ⟨⟨w2, H3, I4, r4, c2', rfl, g3⟩, m2, z2, n2, rfl, n2a, n2b⟩
  obtain rfl : z2 = c2' := by obtain ⟨_, e⟩ := r4; injection e
  refine Calls.spliced_cons (thn (h3.run pins _ _ H3 _ I4 g3) ?_)
  rintro u5 t5' ⟨⟨w3, H4, I5, r5, c3', rfl, fin⟩, m3, z3, n3, rfl, n3a, n3b⟩
  obtain rfl : z3 = c3' := by obtain ⟨_, e⟩ := r5; injection e
  refine Calls.spliced_nil ⟨by show 5 ≤ sizeLine; decide, ?_⟩
  have tk : TkL (s.toks + 1) t5'.toks [y1, Txt.upper y1, z1, z2, z3] [.str y1 k1, .str (Txt.upper y1) t2'.toks, .str z1 n1, .str z2 n2, .str z3 n3] := by
    refine .cons (k := t2'.toks) k1a (Nat.lt_of_lt_of_le k1b l2) (.cons (k := t2'.toks + 1) (Nat.le_refl _) (Nat.lt_succ_self _) (.cons (k := t3'.toks) ?_ n1b (.cons (k := t4'.toks) ?_ n2b (.cons (k := t5'.toks) ?_ n3b (.nil (Nat.le_refl _))))))
    · exact Nat.le_of_succ_le n1a
    · exact Nat.le_of_succ_le n2a
    · exact Nat.le_of_succ_le n3a
  have new : H4 t5'.heap.objs.size = none := I5.hok.fresh (Nat.le_refl _)
  refine ⟨_, rfl, .ref t5'.heap.objs.size, σ.set il (some (V.str y1)), upd H4 t5'.heap.objs.size (.frz { cls := .type "list", data := .seq [Value.str y1 k1, .str (Txt.upper y1) t2'.toks, .str z1 n1, .str z2 n2, .str z3 n3].toArray } (.lst ([y1, Txt.upper y1, z1, z2, z3].map .str))), t5'.toks, ?_, rfl, Nat.le_refl _, ?_⟩
  · exact I5.laid (t' := t5'.toks) (fun b o q => Heap.get?_push_of_some _ q) (Nat.le_refl _) ⟨Heap.get?_push_size _ rfl, by show 5 ≤ sizeLine; decide, _, 0, tk.vals, Heap.get?_push_size _ rfl⟩
  · exact fin _ _ _ new ⟨_, 0, _, _, upd_same, tk, by omega, Nat.le_refl _⟩ fun b hb => upd_ne hb
end Pd

set_option maxHeartbeats 4000000
namespace Pd
open PySem PySem.Spec PyProof.Rows L2
/-! ### discard, of a set whose keys are a list -/
theorem perm_of_len {α : Type} [DecidableEq α] : ∀ {L ks : List α}, L.Nodup → (∀ k ∈ L, k ∈ ks) → ks.length ≤ L.length → ks.Perm L
  | [], ks, _, _, l => by
    rw [List.eq_nil_of_length_eq_zero (Nat.le_zero.mp l)]
  | a :: L, ks, nd, sub, l => by
    have ha := sub a (List.mem_cons_self ..)
    have p := List.perm_cons_erase ha
    obtain ⟨n1, n2⟩ := List.nodup_cons.mp nd
    have q : (ks.erase a).Perm L := perm_of_len n2 (fun k hk => (List.mem_erase_of_ne (by rintro rfl; exact n1 hk)).mpr (sub k (List.mem_cons_of_mem _ hk))) (by
      have := p.length_eq
      simp only [List.length_cons] at this l
      omega)
    exact p.trans (q.cons a)
theorem perm_at {α : Type} : ∀ {ks : List α} {i : Nat} {k : α}, ks[i]? = some k → (k :: ks.eraseIdx i).Perm ks
  | [], _, _, e => by simp at e
  | a :: ks, 0, k, e => by
    simp at e; subst e
    simp
  | a :: ks, i + 1, k, e => by
    have z := perm_at (ks := ks) (i := i) (k := k) (by simpa using e)
    rw [List.eraseIdx_cons_succ]
    exact (List.Perm.swap a k _).trans (z.cons a)
/-- membership, and a list without a key, or with one -/
def hasK {T : Type} [DecidableEq T] (L : List T) : T → Bool := fun j => decide (j ∈ L)
def offK {T : Type} [DecidableEq T] (L : List T) (k : T) : List T := L.erase k
def addK {T : Type} [DecidableEq T] (L : List T) (k : T) : List T := if k ∈ L then L else L ++ [k]
section
variable {T : Type} [DecidableEq T] {L : List T} {j k : T}
theorem offK_nodup (h : L.Nodup) : (offK L k).Nodup := h.erase k
theorem hasK_off (h : L.Nodup) : hasK (offK L k) j = (decide (j ≠ k) && hasK L j) := by
  unfold hasK offK
  rw [← Bool.decide_and]
  exact decide_eq_decide.mpr h.mem_erase_iff
theorem offK_len : (offK L k).length ≤ L.length := List.length_erase_le
theorem addK_nodup (h : L.Nodup) : (addK L k).Nodup := by
  unfold addK
  split
  · exact h
  · rename_i hk
    rw [List.nodup_append]
    refine ⟨h, by simp, fun x hx y hy => ?_⟩
    rw [List.mem_singleton.mp hy]
    rintro rfl
    exact hk hx
theorem hasK_add : hasK (addK L k) j = (hasK L j || decide (j = k)) := by
  unfold hasK addK
  split
  · rename_i hk
    by_cases e : j = k
    · subst e; simp [hk]
    · simp [e]
  · rw [← Bool.decide_or]
    exact decide_eq_decide.mpr (by rw [List.mem_append, List.mem_singleton])
theorem addK_len : (addK L k).length ≤ L.length + 1 := by
  unfold addK
  split
  · omega
  · simp
theorem addK_len' : (addK L k).length = if hasK L k = true then L.length else L.length + 1 := by
  unfold addK hasK
  by_cases hk : k ∈ L
  · rw [if_pos hk, if_pos (decide_eq_true hk)]
  · rw [if_neg hk, if_neg (by rw [decide_eq_false hk]; decide)]
    simp
end
section
variable {prog : Program} {w : World} {T : Type} [DecidableEq T] {knd : KeyKind prog w T}
/-- the keys of entries, one behind the other -/
inductive KsOf (knd : KeyKind prog w T) : List T → List (Int × Value) → Prop where
  | nil : KsOf knd [] []
  | cons {k : T} {e : Int × Value} {ks : List T} {l : List (Int × Value)} (h : knd.is k e.2 = true) (r : KsOf knd ks l) : KsOf knd (k :: ks) (e :: l)
theorem KsOf.of : ∀ {l : List (Int × Value)}, ElemsOf knd l → ∃ ks, KsOf knd ks l
  | [], _ => ⟨[], .nil⟩
  | e :: l, h => by
    obtain ⟨⟨k, hk, _⟩, _⟩ := h.head
    obtain ⟨ks, r⟩ := KsOf.of h.tail
    exact ⟨k :: ks, .cons hk r⟩
theorem KsOf.len : ∀ {ks : List T} {l : List (Int × Value)}, KsOf knd ks l → ks.length = l.length
  | _, _, .nil => rfl
  | _, _, .cons _ r => congrArg (· + 1) r.len
theorem KsOf.mem {k : T} : ∀ {ks : List T} {l : List (Int × Value)}, KsOf knd ks l → (k ∈ ks ↔ ∃ e ∈ l, knd.is k e.2 = true)
  | _, _, .nil => by simp
  | _, _, .cons (k := k0) (e := e) h r => by
    rw [List.mem_cons, r.mem]
    constructor
    · rintro (rfl | ⟨x, hx, hp⟩)
      · exact ⟨e, List.mem_cons_self .., h⟩
      · exact ⟨x, List.mem_cons_of_mem _ hx, hp⟩
    · rintro ⟨x, hx, hp⟩
      rcases List.mem_cons.mp hx with rfl | hx
      · exact .inl (knd.inj _ _ _ hp h)
      · exact .inr ⟨x, hx, hp⟩
theorem KsOf.erase : ∀ {ks : List T} {l : List (Int × Value)} (i : Nat), KsOf knd ks l → KsOf knd (ks.eraseIdx i) (l.eraseIdx i)
  | _, _, _, .nil => by simpa using KsOf.nil
  | _, _, 0, .cons h r => by simpa using r
  | _, _, i + 1, .cons h r => by simpa using KsOf.cons h (r.erase i)
theorem KsOf.at_ {k : T} : ∀ {ks : List T} {l : List (Int × Value)} {i : Nat} (hi : i < l.length), KsOf knd ks l → knd.is k (l[i]).2 = true → ks[i]? = some k
  | _, _, _, hi, .nil, _ => absurd hi (Nat.not_lt_zero _)
  | _, _, 0, hi, .cons h r, e => by
    have := knd.inj _ _ _ e h
    subst this; rfl
  | _, _, i + 1, hi, .cons h r, e => by
    simpa using r.at_ (i := i) (by simpa using hi) (by simpa using e)
theorem erase_list {α : Type} (xs : Array α) (i : Nat) : (SetTable.eraseAt xs i).toList = xs.toList.eraseIdx i := by
  unfold SetTable.eraseAt
  rw [Array.toList_append, Array.toList_extract, Array.toList_extract, List.eraseIdx_eq_take_drop_succ]
  simp [List.extract_eq_drop_take]
  rw [List.take_of_length_le (by simp)]
theorem ins_size {α : Type} (xs : Array α) (p : Nat) (x : α) : (SetTable.insertAt xs p x).size = xs.size + 1 := by
  unfold SetTable.insertAt
  simp only [Array.size_append, Array.size_push, Array.size_extract]
  omega
theorem ers_size {α : Type} (xs : Array α) (i : Nat) (hi : i < xs.size) : (SetTable.eraseAt xs i).size = xs.size - 1 := by
  rw [← Array.length_toList, erase_list, List.length_eraseIdx_of_lt (by simpa using hi), Array.length_toList]
theorem drop_fits {t : SetTable} {n i : Nat} (h : t.fits n = true) (hi : i < n) : (t.drop i).fits (n - 1) = true := by
  simp only [SetTable.fits, Bool.and_eq_true, beq_iff_eq, decide_eq_true_eq] at h ⊢
  obtain ⟨h1, h2⟩ := h
  have hp : i < t.place.size := by omega
  unfold SetTable.fill at h2
  unfold SetTable.drop SetTable.fill
  rw [Array.getElem?_eq_getElem hp]
  dsimp only
  rw [ers_size _ _ hp, ins_size]
  omega
variable {A : Around} {E : Value → Shared → Prop} {s : Shared} {a : Addr} {k : T} {key : Value}
theorem call_set_discard {L : List T} {Q : Value → Shared → Prop} (hkey : knd.is k key = true) (hsc : key.scannable = true) (hS : s.heap.SetOf knd a (hasK L) L.length) (nd : L.Nodup)
    (h : ∀ h', Heap.SameBut a s.heap h' → h'.SetOf knd a (hasK (offK L k)) (offK L k).length → Q .none { s with heap := h', toks := s.toks + 1 }) :
    wpAny (model prog w) A (call (.builtin "set.discard") [.ref a, key]) Q E s := by
  obtain ⟨o, es, ep, t, ho, hex, hd, hel, hmem, hb, hf, hn⟩ := id hS
  refine wpAny_call_entry F.slot_set_discard hS.typeIs F.entry_set_discard ?_ (F.args_set_discard_2 _ _)
  unfold Builtin.«set.discard» Builtin.Frozenset.oneOther
  simp only [List.isEmpty_nil, bind_assoc]
  unfold Builtin.Frozenset.addrOf Builtin.Frozenset.withSetAsKey setDiscard
  refine wpAny_bind (wpAny_pure ?_)
  try dsimp only
  refine wpAny_bind (wpAny_pure ?_)
  try dsimp only
  refine wpAny_bind (wpAny_tryCatch (wpAny_holding (wpAny_bind (knd.pyHash hkey ?_))))
  unfold setDiscardHashed setFind setFindIn
  refine wpAny_bind (wpAny_bind (wpAny_setState_of ho hd hf ?_))
  dsimp only
  rw [byScan_of hsc hb hel]
  simp only [↓reduceIte]
  refine wpAny_bind (wpAny_rule (wpAny_bind (wpAny_setScan_of hkey ho hd hf hel ?_)))
  obtain ⟨ks, K1⟩ := KsOf.of hel
  have P1 : ks.Perm L := perm_of_len nd (fun j hj => K1.mem.mpr ((hmem j).mp (decide_eq_true hj))) (by rw [K1.len, Array.length_toList, hn]; exact Nat.le_refl _)
  cases hr : List.findIdx? (fun e => knd.is k e.2) es.toList with
  | none =>
    dsimp only
    refine wpAny_pure (wpAny_pure ?_)
    have nk : k ∉ L := fun hk => by
      obtain ⟨e, he, hp⟩ := (hmem k).mp (decide_eq_true hk)
      have := List.findIdx?_eq_none_iff.mp hr e he
      rw [hp] at this; cases this
    have z := h s.heap (Heap.SameBut.refl a s.heap) (by unfold offK; rw [List.erase_of_not_mem nk]; exact hS)
    show wpAny _ _ (ret Value.none) _ _ _
    exact wpAny_pure ⟨_, rfl, z⟩
  | some i =>
    dsimp only
    obtain ⟨hi, hpi, _⟩ := List.findIdx?_eq_some_iff_getElem.mp hr
    have hi' : i < es.size := by simpa using hi
    refine wpAny_pure ?_
    dsimp only
    rw [Nat.zero_add]
    refine wpAny_bind (wpAny_setState_of ho hd hf ?_)
    dsimp only
    have ek := K1.at_ hi hpi
    obtain ⟨hik, ei⟩ := List.getElem?_eq_some_iff.mp ek
    have P2 : (ks.eraseIdx i).Perm (L.erase k) := by
      have p1 := perm_at ek
      have p2 := List.perm_cons_erase (P1.mem_iff.mp (ei ▸ List.getElem_mem hik))
      exact ((p1.trans P1).trans p2).cons_inv
    have K2 := K1.erase i
    have el := erase_list es i
    have sz : (SetTable.eraseAt es i).size = es.size - 1 := ers_size es i hi'
    have hel2 : ElemsOf knd (SetTable.eraseAt es i).toList := by
      rw [el]
      exact fun e he => hel e (List.mem_of_mem_eraseIdx he)
    have hm2 : ∀ j, decide (j ∈ L.erase k) = true ↔ ∃ e ∈ (SetTable.eraseAt es i).toList, knd.is j e.2 = true := fun j => by
      rw [decide_eq_true_eq, el, ← K2.mem, P2.mem_iff]
    refine wpAny_bind (wpAny_storeSet_of ho hd ?_ (fits_of_scanBound (Nat.lt_of_le_of_lt (by rw [sz]; omega) hb)))
    obtain ⟨ho1, hS1⟩ := SetOf_store (knd := knd) (t' := t.drop i) ho hex hd hel2 hm2 (by rw [sz]; omega) (by rw [sz]; exact drop_fits hf hi')
    refine wpAny_bind (wpAny_point (wpAny_pure ?_))
    have e2 : (SetTable.eraseAt es i).size = (L.erase k).length := by
      rw [← P2.length_eq, K2.len, ← el, Array.length_toList]
    rw [e2] at hS1
    show wpAny _ _ (ret Value.none) _ _ _
    exact wpAny_pure ⟨_, rfl, h _ (Heap.SameBut.update s.heap a _) hS1⟩
end
/-- a set of the keys of a list -/
def SetL (P : Program) (w : World) (a : Addr) (L : List Key) : HO := SetK P w a (hasK L) L.length
def rDiscL (P : Program) (w : World) : V → List V → Hp → VK → Prop := fun x xs H Q => ∃ (a : Addr) (k : Key) (L : List Key), x = V.ref a ∧ xs = [kV k] ∧ H a = some (SetL P w a L) ∧ L.Nodup ∧
  Q .non (upd H a (SetL P w a (offK L k)))
section
variable {X : Cx}
theorem mt_sdiscL : MtR X "set.discard" (rDiscL X.prog X.w) := by
  intro pins s σ H x xs v us Q I rx rxs h
  obtain ⟨a, k, L, rfl, rfl, ha, nd, q⟩ := h
  cases rx
  cases rxs with
  | cons ry rt =>
    cases rt
    refine call_set_discard (L := L) (kV_is ry) (key_scan ry) (setK_get I ha) nd fun h' sb new => ?_
    have he : ∃ u, h'.get? a = some u := by
      have ⟨o, _, _, _, ho, _⟩ := new
      exact ⟨o, ho⟩
    exact ⟨.non, upd H a (SetL X.prog X.w a (offK L k)), I.write (e := a) (t' := s.toks + 1) (by rw [ha]; trivial) (.inl rfl) (fun b u hb hu => (sb.2 b hb).trans hu) he (setK_new new), rfl, q⟩
end
end Pd

set_option maxHeartbeats 4000000
namespace Pd
open PySem PySem.Spec PyProof.Rows L2
theorem hasK_nil : (hasK ([] : List Key)) = fun _ => false := by
  funext j
  simp [hasK]
/-- set() -/
def rNewL (P : Program) (w : World) : List V → Hp → VK → Prop := fun xs H Q => xs = [] ∧ ∀ p, H p = none → Q (.ref p) (upd H p (SetL P w p []))
/-- k in found -/
def rInL (P : Program) (w : World) : R2 := fun x y H Q => ∃ (k : Key) (a : Addr) (L : List Key), x = kV k ∧ y = V.ref a ∧ H a = some (SetL P w a L) ∧ Q (.bl (hasK L k)) H
/-- found.add(k) -/
def rAddL (P : Program) (w : World) : V → List V → Hp → VK → Prop := fun x xs H Q => ∃ (a : Addr) (k : Key) (L : List Key), x = V.ref a ∧ xs = [kV k] ∧ H a = some (SetL P w a L) ∧ L.length + 1 < 4096 ∧
  Q .non (upd H a (SetL P w a (addK L k)))
/-- a method of a set of keys, by one value -/
def tSM (P : Program) (w : World) (r : V → List V → Hp → VK → Prop) (to te : TE) : TE := fun σ H Q => to σ H fun x H1 => (∃ a L, x = V.ref a ∧ H1 a = some (SetL P w a L)) ∧ te σ H1 fun y H2 => r x [y] H2 Q
section
variable {X : Cx}
theorem cr_newL : CallR X (.type "set") (rNewL X.prog X.w) := by
  intro pins s σ H xs us Q I r h
  obtain ⟨e, q⟩ := h
  refine cr_set0K pins s σ H xs us Q I r ⟨e, fun p hp => ?_⟩
  have z := q p hp
  unfold SetL at z
  rw [hasK_nil] at z
  exact z
theorem op_inL : OpR X (compareOp .In) (rInL X.prog X.w) := by
  intro pins s σ H x y v u Q I rx ry h
  obtain ⟨k, a, L, ex, ey, ha, q⟩ := h
  exact or_sinK pins s σ H x y v u Q I rx ry ⟨k, a, hasK L, L.length, ex, ey, ha, q⟩
theorem mt_addL : MtR X "set.add" (rAddL X.prog X.w) := by
  intro pins s σ H x xs v us Q I rx rxs h
  obtain ⟨a, k, L, ex, exs, ha, room, q⟩ := h
  refine mt_saddK pins s σ H x xs v us Q I rx rxs ⟨a, k, hasK L, L.length, ex, exs, ha, room, ?_⟩
  unfold SetL at q
  rw [addK_len', show hasK (addK L k) = fun j => hasK L j || decide (j = k) from funext fun j => hasK_add] at q
  exact q
theorem pe_setM {a e : Expr} {ta te : TE} {name : Str} {id : String} {apos pos : Pos} {r : V → List V → Hp → VK → Prop} (slot : Slot "set" name id) (ty : typeOf (.builtin id) = pure (.type "method_descriptor")) (rule : MtR X id r) (ho : PE X a ta) (he : PE X e te)
    (hs : starEach [e] X.env = [(false, eval e X.env)] := by rfl) (hbase : attributeBase a name X.env (eval a X.env) = eval a X.env := by rfl) (hline : (apos.endLine == pos.line) = true := by rfl) :
    PE X (.Call (.Attribute a name apos) [e] [] pos) (tSM X.prog X.w r ta te) := by
  constructor
  intro pins s σ H Q I h
  refine PySem.Call_method1 hbase hs hline (thn (ho.run pins s σ H _ I h) ?_)
  rintro v s1 ⟨x, H1, I1, r1, ⟨b, L, rfl, hb⟩, q1⟩
  obtain rfl : v = Value.ref b := r1
  have hS := setK_get I1 hb
  refine ⟨"set", _, F.plainAttrs_set, slot, ty, hS.typeIs, hS.noDict, Calls.callWith_builtin rfl (Calls.evalArgs_plain (Calls.spliced_cons ?_))⟩
  exact thn (he.run pins s1 σ H1 _ I1 q1) fun w s2 ⟨y, H2, I2, r2, q2⟩ => Calls.spliced_nil (rule pins s2 σ H2 (.ref b) [y] (.ref b) [w] Q I2 rfl (.cons r2 .nil) q2)
end
end Pd

namespace Pd
open PySem PySem.Spec PyProof.Rows L2
/-! ### len(o) and o[i] of an own class -/
section
variable {X : Cx} {CX : CXT} {C g : Addr} {n : Nat} {sp : Sp} {E : XK}
/-- a def run one deeper -/
theorem run_fnR1 {pins : List (Addr × Obj)} {σ : L2.St} {H : Hp} {s : Shared} {f : Addr} {Q : VK} {us : List Value} {vs : List V} (F : FnR X.prog X.w X.K X.mg X.base CX n f sp) (hr : Room (n + 1) X.A) (hx : Passes CX X E) (I : Inv X pins σ H s) (r : Vals vs us) (h : sp vs H Q E) :
    codeAny (model X.prog X.w) X.A.in1 (.call (.ref f) ⟨us, []⟩) (fun r s' => match r with | .ok (.ret v) => EP X pins σ Q v s' | .ok _ => False | .error e => X.xe e s') s := by
  refine codeAny_mono (F X.A.in1 X.stack s H us vs Q E hr.in1 I.env0.in1 r h) fun r s' hq => ?_
  cases r with
  | error e => exact hx pins σ H s e s' I hq
  | ok fl =>
    cases fl with
    | ret u => exact I.after hq
    | next => exact False.elim hq
    | brk => exact False.elim hq
    | cont => exact False.elim hq
/-- the reading of len(o) -/
def rLenOwn (C : Addr) (sp : Sp) (E : XK) : List V → Hp → VK → Prop := fun xs H Q => ∃ a dx fs, xs = [.ref a] ∧ H a = some (.ins C dx fs) ∧ sp [.ref a] H (fun z H' => ∃ k : Nat, z = .int k ∧ k < 2 ^ 60 ∧ Q (.int k) H') E
theorem call_lenOwn (hs : PySem.W.findIn X.K (.ref C) "__len__" = some (some (.ref g))) (hf : PySem.W.isFn X.K (.ref g) = true) (F : FnR X.prog X.w X.K X.mg X.base CX n g sp) (hr : Room (n + 1) X.A) (hx : Passes CX X E) :
    CallR X (.builtin "len") (rLenOwn C sp E) := by
  intro pins s σ H xs us Q I r h
  obtain ⟨a, dx, fs, rfl, ha, q⟩ := h
  cases r with
  | cons rx rr =>
    cases rr
    cases rx
    obtain ⟨mA, J, _⟩ := ins_get I.hok ha
    obtain ⟨od, J, _⟩ := J.look
    obtain ⟨m, hF⟩ := I.fr
    refine PySem.W.len_K hF I.ok.mod.kin J hs hf ?_
    refine wpAny_mono (wpAny_call (run_fnR1 (us := [.ref a]) (vs := [.ref a]) F hr hx I (.cons rfl .nil) q)) (fun w s' z => ?_) fun _ _ x => x
    obtain ⟨z', H', I', rz, k, rfl, hk, qz⟩ := z
    obtain ⟨t, e⟩ : ∃ t, w = Value.int (k : Nat) t := rz
    subst e
    exact ⟨⟨by omega, by omega⟩, .int k, H', I'.tok _, ⟨_, rfl⟩, qz⟩
/-- the reading of o[i] -/
def rIxOwn (C : Addr) (sp : Sp) (E : XK) : R2 := fun x y H Q => ∃ a dx fs, x = .ref a ∧ H a = some (.ins C dx fs) ∧ sp [.ref a, y] H Q E
theorem pe_ixOwn (hs : PySem.W.findIn X.K (.ref C) "__getitem__" = some (some (.ref g))) (hf : PySem.W.isFn X.K (.ref g) = true) (hfi : PySem.W.fnIn X.K g = true) (F : FnR X.prog X.w X.K X.mg X.base CX n g sp) (hr : Room (n + 1) X.A) (hx : Passes CX X E) {a b : Expr} {ta tb : TE} {pos : Pos} (ha : PE X a ta) (hb : PE X b tb)
    (hsl : ∀ o i, subscripted b true o i = runValue (.builtin "lifetime.subscript" ⟨[o, i], []⟩) := by intro o i; with_unfolding_all rfl) : PE X (.Subscript a b pos) (tOp (rIxOwn C sp E) ta tb) := by
  refine ⟨fun pins s σ H Q I h => ?_⟩
  refine Subscript_ (binT ha hb I h fun v u s x y H I rx ry h => ?_)
  obtain ⟨a, dx, fs, rfl, ha, q⟩ := h
  cases (show v = Value.ref a from rx)
  obtain ⟨mA, J, _⟩ := ins_get I.hok ha
  obtain ⟨od, J, _⟩ := J.look
  obtain ⟨m, hF⟩ := I.fr
  refine PySem.W.sub_K hF I.ok.mod.kin J hs hfi hf ?_ (hsl _ _)
  exact wpAny_call (run_fnR1 (us := [.ref a, u]) (vs := [.ref a, y]) F hr hx I (.cons rfl (.cons ry .nil)) q)
end
end Pd

set_option maxHeartbeats 4000000
namespace Pd
open PySem PySem.Spec PySem.Calls PyProof.Rows L2 MeetsSeq
/-! ### == and != of an own class with an own __eq__: the values of other kinds decline -/
/-- an instance of the class at C stands at x; the class is neither list nor tuple -/
structure InsX (K : PySem.W.Frag) (C x dx : Addr) (h : Heap) : Prop where
  i : K.In h
  o : h.get? x = some (PySem.W.instObj C dx)
  j : ∃ od, PySem.W.InstAt h x (PySem.W.instObj C dx) C (some od)
  nl : PySem.W.subIn K (.ref C) (.type "list") = some false
  nt : PySem.W.subIn K (.ref C) (.type "tuple") = some false
section
variable {K : PySem.W.Frag} {C x dx : Addr}
theorem InsX.noL {prog : Program} {w : World} {h : Heap} (I : InsX K C x dx h) : PySem.W.Looks (model prog w) h (isInstance (.ref x) (.type "list")) false := by
  obtain ⟨od, J⟩ := I.j
  exact J.type.andThen (PySem.W.looks_subIn I.i I.nl)
theorem InsX.noT {prog : Program} {w : World} {h : Heap} (I : InsX K C x dx h) : PySem.W.Looks (model prog w) h (isInstance (.ref x) (.type "tuple")) false := by
  obtain ⟨od, J⟩ := I.j
  exact J.type.andThen (PySem.W.looks_subIn I.i I.nt)
theorem listEq_dec (l : Addr) : Meets (Builtin.«list.__eq__» ⟨[.ref l, .ref x], []⟩) (fun _ R s => InsX K C x dx s.heap ∧ R (.ok (.ret .notImplemented)) s) :=
  .of_wp fun prog w A R s h => by
    obtain ⟨hp, g, d, tk, os⟩ := s
    obtain ⟨I, h⟩ := h
    have f1 := I.noL (prog := prog) (w := w)
    wp_walk using f1.here
    exact ⟨_, rfl, h⟩
theorem listNe_dec (l : Addr) : Meets (Builtin.«list.__ne__» ⟨[.ref l, .ref x], []⟩) (fun _ R s => InsX K C x dx s.heap ∧ R (.ok (.ret .notImplemented)) s) :=
  .of_wp fun prog w A R s h => by
    obtain ⟨hp, g, d, tk, os⟩ := s
    obtain ⟨I, h⟩ := h
    have f1 := I.noL (prog := prog) (w := w)
    wp_walk using f1.here
    exact ⟨_, rfl, h⟩
theorem tupEq_dec (l : Addr) : Meets (Builtin.«tuple.__eq__» ⟨[.ref l, .ref x], []⟩) (fun _ R s => InsX K C x dx s.heap ∧ R (.ok (.ret .notImplemented)) s) :=
  .of_wp fun prog w A R s h => by
    obtain ⟨hp, g, d, tk, os⟩ := s
    obtain ⟨I, h⟩ := h
    have f1 := I.noT (prog := prog) (w := w)
    wp_walk using f1.here
    exact ⟨_, rfl, h⟩
theorem tupNe_dec (l : Addr) : Meets (Builtin.«tuple.__ne__» ⟨[.ref l, .ref x], []⟩) (fun _ R s => InsX K C x dx s.heap ∧ R (.ok (.ret .notImplemented)) s) :=
  .of_wp fun prog w A R s h => by
    obtain ⟨hp, g, d, tk, os⟩ := s
    obtain ⟨I, h⟩ := h
    have f1 := I.noT (prog := prog) (w := w)
    wp_walk using f1.here
    exact ⟨_, rfl, h⟩
theorem strEq_dec (b : Str) (u : Tok) : Meets (Builtin.«str.__eq__» ⟨[.str b u, .ref x], []⟩) (fun _ R s => InsX K C x dx s.heap ∧ R (.ok (.ret .notImplemented)) s) :=
  .of_wp fun prog w A R s h => by
    obtain ⟨hp, g, d, tk, os⟩ := s
    obtain ⟨I, h⟩ := h
    have hl := I.o
    wp_walk using wpAny_load hl
    exact ⟨_, rfl, h⟩
theorem strNe_dec (b : Str) (u : Tok) : Meets (Builtin.«str.__ne__» ⟨[.str b u, .ref x], []⟩) (fun _ R s => InsX K C x dx s.heap ∧ R (.ok (.ret .notImplemented)) s) :=
  .of_wp fun prog w A R s h => by
    obtain ⟨hp, g, d, tk, os⟩ := s
    obtain ⟨I, h⟩ := h
    have hl := I.o
    wp_walk using wpAny_load hl
    exact ⟨_, rfl, h⟩
theorem intEq_dec (b : Int) (u : Tok) : Meets (Builtin.«int.__eq__» ⟨[.int b u, .ref x], []⟩) (fun _ R s => InsX K C x dx s.heap ∧ R (.ok (.ret .notImplemented)) s) :=
  .of_wp fun prog w A R s h => by
    obtain ⟨hp, g, d, tk, os⟩ := s
    obtain ⟨I, h⟩ := h
    have hl := I.o
    wp_walk using wpAny_load hl
    exact ⟨_, rfl, h⟩
theorem intNe_dec (b : Int) (u : Tok) : Meets (Builtin.«int.__ne__» ⟨[.int b u, .ref x], []⟩) (fun _ R s => InsX K C x dx s.heap ∧ R (.ok (.ret .notImplemented)) s) :=
  .of_wp fun prog w A R s h => by
    obtain ⟨hp, g, d, tk, os⟩ := s
    obtain ⟨I, h⟩ := h
    have hl := I.o
    wp_walk using wpAny_load hl
    exact ⟨_, rfl, h⟩
theorem bolEq_dec (b : Bool) : Meets (Builtin.«int.__eq__» ⟨[.bool b, .ref x], []⟩) (fun _ R s => InsX K C x dx s.heap ∧ R (.ok (.ret .notImplemented)) s) :=
  .of_wp fun prog w A R s h => by
    obtain ⟨hp, g, d, tk, os⟩ := s
    obtain ⟨I, h⟩ := h
    have hl := I.o
    wp_walk using wpAny_load hl
    exact ⟨_, rfl, h⟩
theorem bolNe_dec (b : Bool) : Meets (Builtin.«int.__ne__» ⟨[.bool b, .ref x], []⟩) (fun _ R s => InsX K C x dx s.heap ∧ R (.ok (.ret .notImplemented)) s) :=
  .of_wp fun prog w A R s h => by
    obtain ⟨hp, g, d, tk, os⟩ := s
    obtain ⟨I, h⟩ := h
    have hl := I.o
    wp_walk using wpAny_load hl
    exact ⟨_, rfl, h⟩
end
end Pd

set_option maxHeartbeats 4000000
namespace Pd
open PySem PySem.Spec PySem.Calls PyProof.Rows L2 MeetsSeq
open PySem.W (InstAt Looks findIn subIn isFn looks_subIn looks_findIn notFirst ifBound_K check_slot)
/-! ### == and != of an own class, from the left and from the right -/
section
variable {prog : Program} {w : World} {A : Around} {E : Value → Shared → Prop} {s : Shared} {K : PySem.W.Frag} {x C f : Addr} {ox : Obj} {od : Option Obj} {b tb : Value}
theorem tc_eq {Q : Option Value → Shared → Prop} (X : K.In s.heap) (J : InstAt s.heap x ox C od) (hs : findIn K (.ref C) "__eq__" = some (some (.ref f))) (hf : isFn K (.ref f) = true)
    (h : wpAny (model prog w) A (call (.ref f) [.ref x, b]) (fun v s' => ∃ r, v = .bool r ∧ Q (some (.bool r)) s') E s) : wpAny (model prog w) A (tryCompare (.ref x) "__eq__" b) Q E s := by
  unfold tryCompare
  refine wpAny_bind (ifBound_K X J hs hf (wpAny_mono h (fun v s' hv => ?_) fun _ _ e => e))
  obtain ⟨r, rfl, q⟩ := hv
  exact wpAny_pure q
theorem objNe {Q : Fin → Shared → Prop} (hu : A.units < cLine) (X : K.In s.heap) (J : InstAt s.heap x ox C od) (hs : findIn K (.ref C) "__eq__" = some (some (.ref f))) (hf : isFn K (.ref f) = true)
    (h : wpAny (model prog w) A (call (.ref f) [.ref x, b]) (fun v s' => ∃ r, v = .bool r ∧ Q (.done (.ret (.bool (!r)))) s') E s) : wpAny (model prog w) A (Builtin.«object.__ne__» ⟨[.ref x, b], []⟩) Q E s := by
  unfold Builtin.«object.__ne__»
  refine wpAny_bind (wpAny_of_eq (a := ((Value.ref x : Value), [b])) (by first | rfl | (simp only [slotArgs]; rfl)) ?_)
  refine wpAny_bind (wpAny_cRoomFor hu ?_)
  refine wpAny_bind (ifBound_K X J hs hf (wpAny_mono h (fun v s' hv => ?_) fun _ _ e => e))
  obtain ⟨r, rfl, q⟩ := hv
  refine wpAny_bind (wpAny_truthy_bool ?_)
  exact wpAny_pure q
theorem tc_ne {Q : Option Value → Shared → Prop} (hu : A.in1.units < cLine) (X : K.In s.heap) (J : InstAt s.heap x ox C od) (hne : findIn K (.ref C) "__ne__" = some (some (.builtin "object.__ne__"))) (hob : subIn K (.ref C) (.type "object") = some true)
    (hs : findIn K (.ref C) "__eq__" = some (some (.ref f))) (hf : isFn K (.ref f) = true)
    (h : wpAny (model prog w) A.in1 (call (.ref f) [.ref x, b]) (fun v s' => ∃ r, v = .bool r ∧ Q (some (.bool (!r))) s') E s) : wpAny (model prog w) A (tryCompare (.ref x) "__ne__" b) Q E s := by
  have sub : Looks (model prog w) s.heap (isInstance (.ref x) (.type "object")) true := J.type.andThen (looks_subIn X hob)
  have go : wpAny (model prog w) A (call (.builtin "object.__ne__") [.ref x, b]) (fun v s' => ∃ r, v = .bool r ∧ Q (some (.bool r)) s') E s := by
    refine wpAny_call (codeAny_call_builtin PySem.F.cmp_object.ne.plain PySem.F.cmpEntry_ne ?_)
    refine check_slot PySem.F.cmpKind_ne PySem.F.cmpSplit_ne sub (PySem.F.cmpArgs_ne _ _) ?_
    refine objNe hu X J hs hf (wpAny_mono h (fun v s' hv => ?_) fun _ _ e => e)
    obtain ⟨r, rfl, q⟩ := hv
    exact ⟨r, rfl, _, rfl, q⟩
  have fin : wpAny (model prog w) A (call (.builtin "object.__ne__") ([.ref x] ++ [b]) >>= fun v => pure (some v)) (fun r s' => wpAny (model prog w) A (match r with | some .notImplemented | none => pure none | some v => pure (some v)) Q E s') E s := by
    refine wpAny_bind (wpAny_mono go (fun v s' hv => ?_) fun _ _ e => e)
    obtain ⟨r, rfl, q⟩ := hv
    exact wpAny_pure (wpAny_pure q)
  unfold tryCompare
  simp only [callSpecialIfBound?, bindSpecialIfBound?]
  refine wpAny_bind (wpAny_holding (wpAny_bind (wpAny_bind (wpAny_bind (J.type.here ((looks_findIn X hne).here ?_))))))
  refine wpAny_bind (wpAny_askSetting (wpAny_ite ?_))
  have bnd : bindSpecial (.builtin "object.__ne__") (.ref x) = pure ((.builtin "object.__ne__" : Value), [.ref x]) := PySem.F.cmp_object.ne.bind (.ref x)
  split
  · exact wpAny_bind (wpAny_of_eq bnd (wpAny_pure (by exact fin)))
  · exact wpAny_tryCatch (wpAny_bind (wpAny_of_eq bnd (wpAny_pure (by exact fin))))
theorem rc_left {op : CmpOp} {Q : Value → Shared → Prop} (hu : A.units < cLine) (X : K.In s.heap) (J : InstAt s.heap x ox C od) (hb : Looks (model prog w) s.heap (typeOf b) tb) (hn : notFirst K C tb = true)
    (h : wpAny (model prog w) A (tryCompare (.ref x) (cmpInfo op).2.1 b) (fun r s' => ∃ v, r = some v ∧ Q v s') E s) : wpAny (model prog w) A (richCompare op (.ref x) b) Q E s := by
  unfold richCompare
  simp only [oneThing_ref]
  refine wpAny_holding (wpAny_bind (wpAny_cRoomFor hu (wpAny_bind (J.type.here (wpAny_bind (hb.here ?_))))))
  split
  · rename_i q
    have e : subIn K tb (.ref C) = some false := by
      rcases Bool.or_eq_true_iff.mp hn with e | e
      · rw [beq_iff_eq.mp e] at q; simp at q
      · exact beq_iff_eq.mp e
    refine wpAny_bind ((looks_subIn X e).here ?_)
    simp only [Bool.false_eq_true, if_false]
    refine wpAny_bind (wpAny_mono h (fun r s' z => ?_) fun _ _ e => e)
    obtain ⟨v, rfl, hq⟩ := z
    exact wpAny_pure hq
  · refine wpAny_bind (wpAny_pure ?_)
    simp only [Bool.false_eq_true, if_false]
    refine wpAny_bind (wpAny_mono h (fun r s' z => ?_) fun _ _ e => e)
    obtain ⟨v, rfl, hq⟩ := z
    exact wpAny_pure hq
theorem rc_right {op : CmpOp} {a : Value} {Ta id : String} {Q : Value → Shared → Prop} (ha : s.TypeIs a Ta) (hu : A.units < cLine) (X : K.In s.heap) (J : InstAt s.heap x ox C od) (hsub : subIn K (.ref C) (.type Ta) = some false) (h1 : Slot Ta (cmpInfo op).2.1 id)
    (hc1 : ∀ Q' : Value → Shared → Prop, Q' .notImplemented s → wpAny (model prog w) A (call (.builtin id) [a, .ref x]) Q' E s)
    (h : wpAny (model prog w) A (tryCompare (.ref x) (cmpInfo op).2.2 a) (fun r s' => ∃ v, r = some v ∧ Q v s') E s) : wpAny (model prog w) A (richCompare op a (.ref x)) Q E s := by
  rcases hi : cmpInfo op with ⟨sym, n1, n2⟩
  rw [hi] at h1 h
  simp only [richCompare, hi, ha.oneThing_none]
  refine wpAny_holding (wpAny_bind (wpAny_cRoomFor hu (wpAny_bind (wpAny_typeOf ha (wpAny_bind (J.type.here ?_))))))
  have ne : (Value.type Ta != Value.ref C) = true := rfl
  simp only [ne, if_true]
  refine wpAny_bind ((looks_subIn X hsub).here ?_)
  simp only [Bool.false_eq_true, if_false, Bool.not_false, if_true]
  refine wpAny_bind (m := tryCompare a _ (.ref x)) (wpAny_tryCompare_declines ha h1 (hc1 _ ⟨rfl, ?_⟩))
  refine wpAny_bind (wpAny_mono h (fun r s' z => ?_) fun _ _ e => e)
  obtain ⟨v, rfl, hq⟩ := z
  exact wpAny_pure hq
end
end Pd

set_option maxHeartbeats 4000000
namespace Pd
open PySem PySem.Spec PySem.Calls PyProof.Rows L2 MeetsSeq
open PySem.W (InstAt Looks findIn subIn isFn looks_subIn looks_findIn notFirst)
/-! ### == and != of an own class in a text -/
/-- what the class must say -/
structure EqC (K : PySem.W.Frag) (C g : Addr) : Prop where
  eq : findIn K (.ref C) "__eq__" = some (some (.ref g))
  fn : isFn K (.ref g) = true
  ne : findIn K (.ref C) "__ne__" = some (some (.builtin "object.__ne__"))
  ob : subIn K (.ref C) (.type "object") = some true
  l : subIn K (.ref C) (.type "list") = some false
  t : subIn K (.ref C) (.type "tuple") = some false
  s : subIn K (.ref C) (.type "str") = some false
  i : subIn K (.ref C) (.type "int") = some false
  b : subIn K (.ref C) (.type "bool") = some false
  n : subIn K (.ref C) (.type "NoneType") = some false
  l' : subIn K (.type "list") (.ref C) = some false
  t' : subIn K (.type "tuple") (.ref C) = some false
  s' : subIn K (.type "str") (.ref C) = some false
  i' : subIn K (.type "int") (.ref C) = some false
  b' : subIn K (.type "bool") (.ref C) = some false
  n' : subIn K (.type "NoneType") (.ref C) = some false
/-- a value of a built-in kind -/
inductive Bk (K : PySem.W.Frag) (H : Hp) : V → Prop where
  | non : Bk K H .non
  | int (i : Int) : Bk K H (.int i)
  | bl (b : Bool) : Bk K H (.bl b)
  | str (s : Str) : Bk K H (.str s)
  | lst {a : Addr} {xs : List V} (h : SqL K H a xs) : Bk K H (.ref a)
  | tup {a : Addr} {xs : List V} (h : SqT K H a xs) : Bk K H (.ref a)
/-- the other side -/
inductive Kd (K : PySem.W.Frag) (C : Addr) (H : Hp) : V → Prop where
  | kind {y : V} (h : Bk K H y) : Kd K C H y
  | own {a C' dx : Addr} {fs : List (Str × V)} (h : H a = some (.ins C' dx fs)) (n : notFirst K C (.ref C') = true) : Kd K C H (.ref a)
def rOwnL (K : PySem.W.Frag) (C : Addr) (k : Bool → Bool) (sp : Sp) (E : XK) : R2 := fun x y H Q => ∃ a dx fs, x = .ref a ∧ H a = some (.ins C dx fs) ∧ Kd K C H y ∧ sp [.ref a, y] H (fun z H' => ∃ b, z = .bl b ∧ Q (.bl (k b)) H') E
def rOwnR (K : PySem.W.Frag) (C : Addr) (k : Bool → Bool) (sp : Sp) (E : XK) : R2 := fun x y H Q => ∃ a dx fs, y = .ref a ∧ H a = some (.ins C dx fs) ∧ Bk K H x ∧ sp [.ref a, x] H (fun z H' => ∃ b, z = .bl b ∧ Q (.bl (k b)) H') E
section
variable {X : Cx} {CX : CXT} {C g : Addr} {n : Nat} {sp : Sp} {E : XK} {pins : List (Addr × Obj)} {σ : L2.St} {H : Hp} {s : Shared} {Q : VK}
theorem lookT {M : Model} {h : Heap} {a : Addr} {o : Obj} {T : String} (e : h.get? a = some o) (c : o.cls = .type T) : Looks M h (typeOf (.ref a)) (.type T) := fun A Q E s k q => by
  obtain ⟨oc, od, dt, sl⟩ := o
  simp only at c
  subst c
  exact wpAny_typeOf ⟨_, k _ _ e, rfl⟩ q
theorem own_eq {a dx : Addr} {fs : List (Str × V)} {y : V} {u : Value} {k : Bool → Bool} (Z : EqC X.K C g) (F : FnR X.prog X.w X.K X.mg X.base CX n g sp) (hr : Room n X.A) (hx : Passes CX X E) (I : Inv X pins σ H s) (ha : H a = some (.ins C dx fs)) (ry : RelV y u)
    (q : sp [.ref a, y] H (fun z H' => ∃ b, z = .bl b ∧ Q (.bl b) H') E) : wpAny (model X.prog X.w) X.A (tryCompare (.ref a) "__eq__" u) (fun r s' => ∃ v, r = some v ∧ EP X pins σ Q v s') X.xe s := by
  obtain ⟨mA, J, _⟩ := ins_get I.hok ha
  obtain ⟨od, J, _⟩ := J.look
  refine tc_eq I.kIn J Z.eq Z.fn (wpAny_mono (wpAny_call (run_fnR (us := [.ref a, u]) (vs := [.ref a, y]) F hr hx I (.cons rfl (.cons ry .nil)) q)) (fun w s' z => ?_) fun _ _ x => x)
  obtain ⟨z', H', I', rz, b, rfl, qz⟩ := z
  cases (show w = Value.bool b from rz)
  exact ⟨b, rfl, _, rfl, .bl b, H', I', rfl, qz⟩
theorem own_ne {a dx : Addr} {fs : List (Str × V)} {y : V} {u : Value} (Z : EqC X.K C g) (F : FnR X.prog X.w X.K X.mg X.base CX n g sp) (hr : Room (n + 1) X.A) (hx : Passes CX X E) (I : Inv X pins σ H s) (ha : H a = some (.ins C dx fs)) (ry : RelV y u)
    (q : sp [.ref a, y] H (fun z H' => ∃ b, z = .bl b ∧ Q (.bl (!b)) H') E) : wpAny (model X.prog X.w) X.A (tryCompare (.ref a) "__ne__" u) (fun r s' => ∃ v, r = some v ∧ EP X pins σ Q v s') X.xe s := by
  obtain ⟨mA, J, _⟩ := ins_get I.hok ha
  obtain ⟨od, J, _⟩ := J.look
  have hu : X.A.in1.units < cLine := by have := hr.in1.units; omega
  refine tc_ne hu I.kIn J Z.ne Z.ob Z.eq Z.fn (wpAny_mono (wpAny_call (run_fnR1 (us := [.ref a, u]) (vs := [.ref a, y]) F hr hx I (.cons rfl (.cons ry .nil)) q)) (fun w s' z => ?_) fun _ _ x => x)
  obtain ⟨z', H', I', rz, b, rfl, qz⟩ := z
  cases (show w = Value.bool b from rz)
  exact ⟨b, rfl, _, rfl, .bl (!b), H', I', rfl, qz⟩
/-- the type of the other side, which is not asked first -/
theorem kd_look {y : V} {u : Value} (Z : EqC X.K C g) (I : Inv X pins σ H s) (h : Kd X.K C H y) (ry : RelV y u) : ∃ tb, Looks (model X.prog X.w) s.heap (typeOf u) tb ∧ notFirst X.K C tb = true := by
  have nf : ∀ {T : String}, subIn X.K (.type T) (.ref C) = some false → notFirst X.K C (.type T) = true := fun e => by
    unfold notFirst
    rw [e]; simp
  cases h with
  | @own a C' dx fs h n =>
    cases (show u = Value.ref a from ry)
    obtain ⟨mA, J, _⟩ := ins_get I.hok h
    obtain ⟨od, J, _⟩ := J.look
    exact ⟨_, J.type, n⟩
  | kind h =>
    cases h with
    | non => cases ry; exact ⟨_, PySem.W.Looks.of_pure rfl, nf Z.n'⟩
    | int i => obtain ⟨t, rfl⟩ := ry; exact ⟨_, PySem.W.Looks.of_pure rfl, nf Z.i'⟩
    | bl b => cases ry; exact ⟨_, PySem.W.Looks.of_pure rfl, nf Z.b'⟩
    | str x => obtain ⟨t, rfl⟩ := ry; exact ⟨_, PySem.W.Looks.of_pure rfl, nf Z.s'⟩
    | @lst a xs h =>
      cases (show u = Value.ref a from ry)
      obtain ⟨its, rv, pl, hz⟩ := I.list h
      obtain ⟨o, ho, hc, _⟩ := pl.isList
      exact ⟨_, lookT ho hc, nf Z.l'⟩
    | @tup a xs h =>
      cases (show u = Value.ref a from ry)
      obtain ⟨its, rv, ⟨o, ho, hc, _⟩, hz⟩ := I.tuple h
      exact ⟨_, lookT ho hc, nf Z.t'⟩
theorem op_eqL (Z : EqC X.K C g) (F : FnR X.prog X.w X.K X.mg X.base CX n g sp) (hr : Room n X.A) (hx : Passes CX X E) : OpR X (compareOp .Eq) (rOwnL X.K C (fun b => b) sp E) := by
  intro pins s σ H x y v u Q I rx ry h
  obtain ⟨a, dx, fs, rfl, ha, hk, q⟩ := h
  cases (show v = Value.ref a from rx)
  obtain ⟨tb, lk, nf⟩ := kd_look Z I hk ry
  obtain ⟨mA, J, _⟩ := ins_get I.hok ha
  obtain ⟨od, J, _⟩ := J.look
  exact rc_left (op := .Eq) (by have := hr.units; omega) I.kIn J lk nf (own_eq (k := fun b => b) Z F hr hx I ha ry q)
theorem op_neL (Z : EqC X.K C g) (F : FnR X.prog X.w X.K X.mg X.base CX n g sp) (hr : Room (n + 1) X.A) (hx : Passes CX X E) : OpR X (compareOp .NotEq) (rOwnL X.K C (fun b => !b) sp E) := by
  intro pins s σ H x y v u Q I rx ry h
  obtain ⟨a, dx, fs, rfl, ha, hk, q⟩ := h
  cases (show v = Value.ref a from rx)
  obtain ⟨tb, lk, nf⟩ := kd_look Z I hk ry
  obtain ⟨mA, J, _⟩ := ins_get I.hok ha
  obtain ⟨od, J, _⟩ := J.look
  exact rc_left (op := .NotEq) (by have := hr.units; omega) I.kIn J lk nf (own_ne Z F hr hx I ha ry q)
theorem ins_x {a dx : Addr} {fs : List (Str × V)} (Z : EqC X.K C g) (I : Inv X pins σ H s) (ha : H a = some (.ins C dx fs)) : InsX X.K C a dx s.heap := by
  obtain ⟨mA, J, _⟩ := ins_get I.hok ha
  obtain ⟨od, J', _⟩ := J.look
  exact ⟨I.kIn, J.obj, ⟨od, J'⟩, Z.l, Z.t⟩
theorem op_eqR (Z : EqC X.K C g) (F : FnR X.prog X.w X.K X.mg X.base CX n g sp) (hr : Room n X.A) (hx : Passes CX X E) : OpR X (compareOp .Eq) (rOwnR X.K C (fun b => b) sp E) := by
  intro pins s σ H x y v u Q I rx ry h
  obtain ⟨a, dx, fs, rfl, ha, hk, q⟩ := h
  cases (show u = Value.ref a from ry)
  obtain ⟨mA, J, _⟩ := ins_get I.hok ha
  obtain ⟨od, J, _⟩ := J.look
  have hu : X.A.units < cLine := by have := hr.units; omega
  have ix := ins_x Z I ha
  have go := own_eq (k := fun b => b) (Q := Q) Z F hr hx I ha rx q
  cases hk with
  | non => cases rx; exact rc_right (op := .Eq) (a := .none) rfl hu I.kIn J Z.n PySem.F.slot_NoneType_eq (fun _ hq => call_gives PySem.F.slot_NoneType_eq rfl PySem.F.entry_NoneType_eq (PySem.F.args_NoneType_eq_2 _ _) (SeqAt.NoneType___eq___none_ref_0 a) hq) go
  | int i => obtain ⟨t, rfl⟩ := rx; exact rc_right (op := .Eq) (typeIs_int s i t) hu I.kIn J Z.i PySem.F.slot_int_eq (fun _ hq => call_meets PySem.F.slot_int_eq (typeIs_int s i t) PySem.F.entry_int_eq (PySem.F.args_int_eq_2 _ _) (intEq_dec i t) ⟨ix, hq⟩) go
  | bl b => cases rx; exact rc_right (op := .Eq) (a := .bool b) rfl hu I.kIn J Z.b PySem.F.slot_bool_eq (fun _ hq => call_meets PySem.F.slot_bool_eq rfl PySem.F.entry_int_eq (PySem.F.args_int_eq_2 _ _) (bolEq_dec b) ⟨ix, hq⟩) go
  | str x => obtain ⟨t, rfl⟩ := rx; exact rc_right (op := .Eq) (typeIs_str s x t) hu I.kIn J Z.s PySem.F.slot_str_eq (fun _ hq => call_meets PySem.F.slot_str_eq (typeIs_str s x t) PySem.F.entry_str_eq (PySem.F.args_str_eq_2 _ _) (strEq_dec x t) ⟨ix, hq⟩) go
  | @lst l xs h =>
    cases (show v = Value.ref l from rx)
    obtain ⟨its, rv, pl, hz⟩ := I.list h
    obtain ⟨⟨oc, od', dt, sl⟩, ho, hc, _⟩ := pl.isList
    simp only at hc
    subst hc
    exact rc_right (op := .Eq) ⟨_, ho, rfl⟩ hu I.kIn J Z.l PySem.F.slot_list_eq (fun _ hq => call_meets PySem.F.slot_list_eq ⟨_, ho, rfl⟩ PySem.F.entry_list_eq (PySem.F.args_list_eq_2 _ _) (listEq_dec l) ⟨ix, hq⟩) go
  | @tup l xs h =>
    cases (show v = Value.ref l from rx)
    obtain ⟨its, rv, ⟨⟨oc, od', dt, sl⟩, ho, hc, _⟩, hz⟩ := I.tuple h
    simp only at hc
    subst hc
    exact rc_right (op := .Eq) ⟨_, ho, rfl⟩ hu I.kIn J Z.t PySem.F.slot_tuple_eq (fun _ hq => call_meets PySem.F.slot_tuple_eq ⟨_, ho, rfl⟩ PySem.F.entry_tuple_eq (PySem.F.args_tuple_eq_2 _ _) (tupEq_dec l) ⟨ix, hq⟩) go
theorem op_neR (Z : EqC X.K C g) (F : FnR X.prog X.w X.K X.mg X.base CX n g sp) (hr : Room (n + 1) X.A) (hx : Passes CX X E) : OpR X (compareOp .NotEq) (rOwnR X.K C (fun b => !b) sp E) := by
  intro pins s σ H x y v u Q I rx ry h
  obtain ⟨a, dx, fs, rfl, ha, hk, q⟩ := h
  cases (show u = Value.ref a from ry)
  obtain ⟨mA, J, _⟩ := ins_get I.hok ha
  obtain ⟨od, J, _⟩ := J.look
  have hu : X.A.units < cLine := by have := hr.units; omega
  have ix := ins_x Z I ha
  have go := own_ne (Q := Q) Z F hr hx I ha rx q
  cases hk with
  | non => cases rx; exact rc_right (op := .NotEq) (a := .none) rfl hu I.kIn J Z.n PySem.F.slot_NoneType_ne (fun _ hq => call_gives PySem.F.slot_NoneType_ne rfl PySem.F.entry_NoneType_ne (PySem.F.args_NoneType_ne_2 _ _) (SeqAt.NoneType___ne___none_ref_0 a) hq) go
  | int i => obtain ⟨t, rfl⟩ := rx; exact rc_right (op := .NotEq) (typeIs_int s i t) hu I.kIn J Z.i PySem.F.slot_int_ne (fun _ hq => call_meets PySem.F.slot_int_ne (typeIs_int s i t) PySem.F.entry_int_ne (PySem.F.args_int_ne_2 _ _) (intNe_dec i t) ⟨ix, hq⟩) go
  | bl b => cases rx; exact rc_right (op := .NotEq) (a := .bool b) rfl hu I.kIn J Z.b PySem.F.slot_bool_ne (fun _ hq => call_meets PySem.F.slot_bool_ne rfl PySem.F.entry_int_ne (PySem.F.args_int_ne_2 _ _) (bolNe_dec b) ⟨ix, hq⟩) go
  | str x => obtain ⟨t, rfl⟩ := rx; exact rc_right (op := .NotEq) (typeIs_str s x t) hu I.kIn J Z.s PySem.F.slot_str_ne (fun _ hq => call_meets PySem.F.slot_str_ne (typeIs_str s x t) PySem.F.entry_str_ne (PySem.F.args_str_ne_2 _ _) (strNe_dec x t) ⟨ix, hq⟩) go
  | @lst l xs h =>
    cases (show v = Value.ref l from rx)
    obtain ⟨its, rv, pl, hz⟩ := I.list h
    obtain ⟨⟨oc, od', dt, sl⟩, ho, hc, _⟩ := pl.isList
    simp only at hc
    subst hc
    exact rc_right (op := .NotEq) ⟨_, ho, rfl⟩ hu I.kIn J Z.l PySem.F.slot_list_ne (fun _ hq => call_meets PySem.F.slot_list_ne ⟨_, ho, rfl⟩ PySem.F.entry_list_ne (PySem.F.args_list_ne_2 _ _) (listNe_dec l) ⟨ix, hq⟩) go
  | @tup l xs h =>
    cases (show v = Value.ref l from rx)
    obtain ⟨its, rv, ⟨⟨oc, od', dt, sl⟩, ho, hc, _⟩, hz⟩ := I.tuple h
    simp only at hc
    subst hc
    exact rc_right (op := .NotEq) ⟨_, ho, rfl⟩ hu I.kIn J Z.t PySem.F.slot_tuple_ne (fun _ hq => call_meets PySem.F.slot_tuple_ne ⟨_, ho, rfl⟩ PySem.F.entry_tuple_ne (PySem.F.args_tuple_ne_2 _ _) (tupNe_dec l) ⟨ix, hq⟩) go
/-- from either side -/
def rOwnE (K : PySem.W.Frag) (C : Addr) (k : Bool → Bool) (sp : Sp) (E : XK) : R2 := fun x y H Q => rOwnL K C k sp E x y H Q ∨ rOwnR K C k sp E x y H Q
theorem op_eqO (Z : EqC X.K C g) (F : FnR X.prog X.w X.K X.mg X.base CX n g sp) (hr : Room n X.A) (hx : Passes CX X E) : OpR X (compareOp .Eq) (rOwnE X.K C (fun b => b) sp E) := by
  intro pins s σ H x y v u Q I rx ry h
  rcases h with h | h
  · exact op_eqL Z F hr hx pins s σ H x y v u Q I rx ry h
  · exact op_eqR Z F hr hx pins s σ H x y v u Q I rx ry h
theorem op_neO (Z : EqC X.K C g) (F : FnR X.prog X.w X.K X.mg X.base CX n g sp) (hr : Room (n + 1) X.A) (hx : Passes CX X E) : OpR X (compareOp .NotEq) (rOwnE X.K C (fun b => !b) sp E) := by
  intro pins s σ H x y v u Q I rx ry h
  rcases h with h | h
  · exact op_neL Z F hr hx pins s σ H x y v u Q I rx ry h
  · exact op_neR Z F hr hx pins s σ H x y v u Q I rx ry h
end
end Pd

set_option maxHeartbeats 2000000
namespace Pd
open PySem PySem.Spec PyProof.Rows L2
/-! ### the words of a text, their tokens known -/
def TxM (m k : Nat) (H : Hp) (a : Addr) (cs : List Str) : Prop :=
  ∃ (its : List Value) (n : Nat), H a = some (.frz { cls := .type "list", data := .seq its.toArray n } (.lst (cs.map V.str))) ∧ TkL m k cs its
theorem TxM.seq {K : PySem.W.Frag} {m k : Nat} {H : Hp} {a : Addr} {cs : List Str} (h : TxM m k H a cs) : SqL K H a (cs.map V.str) := by
  obtain ⟨its, n, e, _⟩ := h
  exact .inl (.inr ⟨_, e⟩)
theorem TxM.same {m k : Nat} {H H' : Hp} {a : Addr} {cs : List Str} (h : TxM m k H a cs) (e : H' a = H a) : TxM m k H' a cs := by
  obtain ⟨its, n, e1, r⟩ := h
  exact ⟨its, n, e.trans e1, r⟩
theorem TkL.tail : ∀ {m k : Nat} {cs : List Str} {us : List Value}, TkL m k cs us → TkL m k cs.tail us.tail
  | _, _, _, _, .nil h => .nil h
  | _, _, _, _, .cons h1 h2 r => r.low (Nat.le_trans h1 (Nat.le_of_lt h2))
theorem TkL.idx : ∀ {n m : Nat} {cs : List Str} {us : List Value} {i j : Nat} {c d : Str} {t : Nat}, TkL n m cs us → us[i]? = some (.str c t) → us[j]? = some (.str d t) → i = j
  | _, _, _, _, _, _, _, _, _, .nil _, e, _ => by simp at e
  | _, _, _, _, 0, 0, _, _, _, .cons _ _ _, e, f => rfl
  | _, _, _, _, 0, j + 1, _, _, _, .cons (k := k) h1 h2 r, e, f => by
    simp at e f
    obtain ⟨_, rfl⟩ := e
    exact absurd (Nat.lt_of_lt_of_le h2 (r.get_ge f)) (Nat.lt_irrefl _)
  | _, _, _, _, i + 1, 0, _, _, _, .cons h1 h2 r, e, f => by
    simp at e f
    obtain ⟨_, rfl⟩ := f
    exact absurd (Nat.lt_of_lt_of_le h2 (r.get_ge e)) (Nat.lt_irrefl _)
  | _, _, _, _, i + 1, j + 1, _, _, _, .cons h1 h2 r, e, f => congrArg (· + 1) (r.idx (by simpa using e) (by simpa using f))
theorem TkL.lt {n m : Nat} {cs : List Str} {us : List Value} {i : Nat} {c : Str} {t : Nat} (h : TkL n m cs us) (e : us[i]? = some (.str c t)) : n ≤ t ∧ t < m ∧ cs[i]? = some c := by
  have hl : us.length = cs.length := by have := h.vals.length; rw [List.length_map] at this; exact this.symm
  have hi : i < cs.length := by rw [← hl]; exact (List.getElem?_eq_some_iff.mp e).1
  obtain ⟨t', e', h1, h2⟩ := h.get (i := i) (List.getElem?_eq_getElem hi)
  rw [e] at e'
  injection e' with e'
  injection e' with e1 e2
  subst e1 e2
  exact ⟨h1, h2, List.getElem?_eq_getElem hi⟩
theorem strs_tk : ∀ (tk : Nat) (xs : List Str), TkL tk (tk + xs.length) xs (strsFrom tk xs)
  | tk, [] => .nil (Nat.le_refl _)
  | tk, x :: r => .cons (k := tk + 1) (Nat.le_refl _) (Nat.lt_succ_self _) (by
    have := strs_tk (tk + 1) r
    rw [List.length_cons, show tk + (r.length + 1) = tk + 1 + r.length by omega]
    exact this)
/-- texts whose tokens are unlike where they are unlike, none the first -/
def Unl (cs : List Str) (its : List Value) : Prop := Vals (cs.map V.str) its ∧ ∀ (i j : Nat) (c d : Str) (t u : Nat), its[i]? = some (.str c t) → its[j]? = some (.str d u) → t ≠ 0 ∧ (t = u → c = d)
def TxU (H : Hp) (a : Addr) (cs : List Str) : Prop :=
  ∃ (its : List Value) (n : Nat), H a = some (.frz { cls := .type "list", data := .seq its.toArray n } (.lst (cs.map V.str))) ∧ Unl cs its
theorem TxU.seq {K : PySem.W.Frag} {H : Hp} {a : Addr} {cs : List Str} (h : TxU H a cs) : SqL K H a (cs.map V.str) := by
  obtain ⟨its, n, e, _⟩ := h
  exact .inl (.inr ⟨_, e⟩)
theorem TxU.same {H H' : Hp} {a : Addr} {cs : List Str} (h : TxU H a cs) (e : H' a = H a) : TxU H' a cs := by
  obtain ⟨its, n, e1, r⟩ := h
  exact ⟨its, n, e.trans e1, r⟩
section
variable {X : Cx} {pins : List (Addr × Obj)} {σ : L2.St} {H : Hp} {s : Shared}
/-- a list object that stays, laid with its items known -/
theorem lay_frz (I : Inv X pins σ H s) {cs : List Str} {its : List Value} {nn t' : Nat} (v : Vals (cs.map V.str) its) (hz : cs.length ≤ sizeLine) :
    Inv X pins σ (upd H s.heap.objs.size (.frz { cls := .type "list", data := .seq its.toArray nn } (.lst (cs.map V.str)))) { s with heap := s.heap.push { cls := .type "list", data := .seq its.toArray nn }, toks := t' } :=
  I.laid (t' := t') (fun b o q => Heap.get?_push_of_some _ q) (Nat.le_refl _) ⟨Heap.get?_push_size _ rfl, by rw [List.length_map]; exact hz, its, nn, v, Heap.get?_push_size _ rfl⟩
theorem split_raw (I : Inv X pins σ H s) {a b : Str} {t u : Tok} {R E : Value → Shared → Prop} (hb : (b.length == 0) = false) (hz : a.length + 2 ≤ sizeLine) (h1 : 1 < (Txt.split a b).length) (ht : 1 ≤ s.toks)
    (q : ∀ p m k s', H p = none → 1 ≤ m → k ≤ s'.toks → ∀ H', TxM m k H' p (Txt.split a b) → (∀ c, c ≠ p → H' c = H c) → Inv X pins σ H' s' → s.toks ≤ s'.toks → R (.ref p) s') :
    wpAny (model X.prog X.w) X.A (call (.builtin "str.split") [.str a t, .str b u]) R E s := by
  have hl : (Txt.split a b).length ≤ sizeLine := Nat.le_trans (PyProof.Rows.split_le a b) hz
  have hn : (Builtin.Str.partsBetween a (Builtin.Str.occurrences a b 0 a.length (a.length + 1)) b.length).length ≤ sizeLine := by
    have e1 := StrLaws.occ_length_le a b 0 a.length (a.length + 1)
    rw [length_partsBetween]; omega
  cases c1 : (decide (a.length < b.length) || decide (Builtin.Str.strKind a < Builtin.Str.strKind b))
  · cases hf : (Builtin.Str.occurrences a b 0 a.length (a.length + 1)).isEmpty
    · refine call_meets F.slot_str_split (typeIs_str _ _ _) F.entry_str_split (F.args_str_split_2 _ _) (meets_str_split_sep a b t u c1 hb hf (by omega) hn) ?_
      have e : Txt.split a b = Builtin.Str.partsBetween a (Builtin.Str.occurrences a b 0 a.length (a.length + 1)) b.length := (if_neg (ne_true_of_eq_false c1)).trans (if_neg (ne_true_of_eq_false hf))
      rw [← e]
      have tk := strs_tk s.toks (Txt.split a b)
      refine q s.heap.objs.size s.toks (s.toks + (Txt.split a b).length) _ (I.hok.fresh (Nat.le_refl _)) ht (Nat.le_refl _) _ ⟨_, 0, upd_same, tk⟩ (fun c hc => upd_ne hc) (lay_frz I tk.vals hl) (Nat.le_add_right _ _)
    · exfalso
      have e : Txt.split a b = [a] := (if_neg (ne_true_of_eq_false c1)).trans (if_pos hf)
      rw [e] at h1; exact absurd h1 (Nat.lt_irrefl 1)
  · exfalso
    have e : Txt.split a b = [a] := if_pos c1
    rw [e] at h1; exact absurd h1 (Nat.lt_irrefl 1)
theorem itemW {L it : Addr} {i n : Nat} {us : List Value} {u : Value} {tg : Expr} {E E' : Value → Shared → Prop} (I : Inv X pins σ H s) (hf : FpOk X pins H it) (st : s.heap.IsListIter it L i) (hL : s.heap.get? L = some { cls := .type "list", data := .seq us.toArray n }) (hu : us[i]? = some u) :
    wpAny (model X.prog X.w) X.A (pyNext (.ref it)) (fun r s1 => r = some u ∧ wpAny (model X.prog X.w) X.A (letOwnedTupleGo tg (.ref it) u) (fun _ s2 => Inv X pins σ H s2 ∧ s2.heap.IsListIter it L (i + 1)) E' s1) E s := by
  obtain ⟨f0, f1, f2, f3, f4, f5⟩ := hf
  refine wpAny_pyNext_list_item st ⟨_, hL, rfl, n, rfl⟩ (x := u) (by simpa using hu) fun h' st' sb => ?_
  have I1 : Inv X pins σ H { s with heap := h' } := I.turned (t' := s.toks) (fun b o hb e => (sb.2 b hb).trans e) f0 f1 f3 f4 f5
  obtain ⟨o, e, c, d⟩ := id st'
  exact ⟨rfl, go_of (s := { s with heap := h' }) e c d (by decide) ⟨I1, st'⟩⟩
end
theorem sl_M {X : Cx} : SlR X (fun x lo hi H Q => ∃ a m k cs, x = .ref a ∧ TxM m k H a cs ∧ lo = some 1 ∧ hi = none ∧ ∀ p H', H p = none → TxM m k H' p cs.tail → (∀ b, b ≠ p → H' b = H b) → Q (.ref p) H') := by
  intro pins s σ H x v vl vu lo hi sl Q I rx hs pl pu h
  obtain ⟨a, m, k, cs, rfl, ⟨its, n, hf, tk⟩, rfl, rfl, q⟩ := h
  cases rx
  obtain ⟨hob, hz, _⟩ := I.hok a _ hf
  have ht : s.heap.IsList a its.toArray := ⟨_, hob, rfl, n, rfl⟩
  rw [List.length_map] at hz
  have hlen : its.length = cs.length := by have := tk.vals.length; rw [List.length_map] at this; exact this.symm
  refine ⟨"list", _, slot_list_getitem.lookup, ht.typeIs, ?_⟩
  refine wpAny_getItem_list_slice ht hs pl pu .none (by simp) ?_ (by rw [List.size_toArray]; omega)
  rw [slicePick_cut]
  have e1 : (its.drop (HT.sIx its.length 0 (some 1))).take (HT.sIx its.length its.length none - HT.sIx its.length 0 (some 1)) = its.tail := by
    by_cases h1 : 1 ≤ its.length
    · have e1 : HT.sIx its.length 0 (some 1) = 1 := by
        have := HT.sIx_nat its.length 0 1
        rw [show ((1 : Nat) : Int) = 1 from rfl] at this
        rw [this]; omega
      rw [e1, HT.sIx_none, List.take_of_length_le (by rw [List.length_drop]; exact Nat.le_refl _), List.drop_one]
    · have : its = [] := List.eq_nil_of_length_eq_zero (by omega)
      subst this
      simp
  rw [e1]
  refine ⟨.ref s.heap.objs.size, _, lay_frz I (cs := cs.tail) (nn := 0) (t' := s.toks) tk.tail.vals (by rw [List.length_tail]; omega), rfl, q _ _ (I.hok.fresh (Nat.le_refl _)) ⟨_, 0, upd_same, tk.tail⟩ fun b hb => upd_ne hb⟩
end Pd

set_option maxHeartbeats 2000000
namespace Pd
open PySem PySem.Spec PyProof.Rows L2
/-! ### word.replace(..) of a word whose token is known -/
section
open Builtin.Str
theorem replace_tok {prog : Program} {w : World} {A : Around} {E : Value → Shared → Prop} {s : Shared} {x y z : Str} {t u v : Tok} {Q : Value → Shared → Prop} (hu : u ≠ 0) (hv : v ≠ 0) (huv : u ≠ v) (hyz : (y == z) = false) (hb : x.length + (x.length + 1) * z.length ≤ 16777216)
    (hq : ∀ t' k, ((t' = t ∧ x = Txt.replace x y z) ∨ (s.toks ≤ t' ∧ t' < k)) → s.toks ≤ k → Q (.str (Txt.replace x y z) t') { s with toks := k }) : wpAny (model prog w) A (call (.builtin "str.replace") [.str x t, .str y u, .str z v]) Q E s := by
  have hl : tooLong (x.length + (occurrences x y 0 x.length (x.length + 1)).length * z.length) = false := by
    have h1 := StrLaws.occ_length_le x y 0 x.length (x.length + 1)
    have h2 : (occurrences x y 0 x.length (x.length + 1)).length * z.length ≤ (x.length + 1) * z.length := Nat.mul_le_mul_right _ h1
    unfold tooLong sizeLine
    exact decide_eq_false (by omega)
  refine call_gives F.slot_str_replace (typeIs_str _ _ _) F.entry_str_replace (F.args_str_replace_3 _ _ _)
    (gives_str_replace x y z t u v fun _ => ⟨by simp [hu, hv], by simp [huv], hyz, hl⟩) ?_
  have hq' := hq
  unfold Txt.replace at hq'
  cases hc : ((occurrences x y 0 x.length (x.length + 1)).isEmpty || (y.length == 0 && z.length == 0))
  · rw [hc] at hq'
    simp only [Bool.false_eq_true, if_false] at hq' ⊢
    exact ⟨fits_replaced y hb, hq' _ _ (.inr ⟨Nat.le_refl _, Nat.lt_succ_self _⟩) (Nat.le_succ _)⟩
  · rw [hc] at hq'
    simp only [if_true] at hq' ⊢
    exact hq' t s.toks (.inl (by simp)) (Nat.le_refl _)
end
structure ElW (X : Cx) (elt : Expr) (kx y z : Str) : Prop where
  run : ∀ (pins : List (Addr × Obj)) (s : Shared) (σ : L2.St) (H : Hp) (x : Str) (t : Tok) (Q E : Value → Shared → Prop), 1 ≤ s.toks → Inv X pins σ H s → Holds X s kx (.str x t) → x.length ≤ 1000 →
    (∀ u k, ((u = t ∧ x = Txt.replace x y z) ∨ (s.toks ≤ u ∧ u < k)) → s.toks ≤ k → Q (.str (Txt.replace x y z) u) { s with toks := k }) → wpAny (model X.prog X.w) X.A (eval elt X.env) Q E s
theorem elW {X : Cx} {kx y z : Str} {j k : Nat} {p1 c0 c1 apos pos : Pos} (hyz : (y == z) = false) (hz : z.length ≤ 1000) (hd : (kx == ("__debug__" : Str)) = false)
    (hst : starEach [.Constant (.str y) j c0, .Constant (.str z) k c1] X.env = [(false, eval (.Constant (.str y) j c0) X.env), (false, eval (.Constant (.str z) k c1) X.env)])
    (hbase : attributeBase (.Name kx p1) "replace" X.env (eval (.Name kx p1) X.env) = eval (.Name kx p1) X.env) (hline : (apos.endLine == pos.line) = true) :
    ElW X (.Call (.Attribute (.Name kx p1) "replace" apos) [.Constant (.str y) j c0, .Constant (.str z) k c1] [] pos) kx y z := by
  refine ⟨fun pins s σ H x t Q E h0 I hh hx q => ?_⟩
  refine PySem.Call_method2 hbase hst hline (hh.load I ?_ hd)
  refine ⟨"str", _, PySem.F.plainAttrs_str, PySem.F.slot_str_replace, PySem.F.type_str_replace, typeIs_str _ _ _, (fun _ e => nomatch e), Calls.callWith_builtin rfl (Calls.evalArgs_plain (Calls.spliced_cons ?_))⟩
  refine Calls.Constant_str (Calls.spliced_cons (Calls.Constant_str (Calls.spliced_nil ?_)))
  refine replace_tok (by show s.toks ≠ 0; omega) (by show s.toks + 1 ≠ 0; omega) (by show s.toks ≠ s.toks + 1; omega) hyz ?_ fun t' k h hk => q t' k ?_ ?_
  · have h1 : (x.length + 1) * z.length ≤ 1001 * 1000 := Nat.mul_le_mul (by omega) hz
    omega
  · rcases h with h | ⟨h1, h2⟩
    · exact .inl h
    · have h1 : s.toks + 1 + 1 ≤ t' := h1
      exact .inr ⟨by omega, h2⟩
  · have hk : s.toks + 1 + 1 ≤ k := hk
    omega
/-! ### [word.replace(..) for word in words] -/
/-- the items so far: as old as the words, or new; each token once -/
structure LW (B T : Nat) (ws : List Str) (us : List Value) (y z : Str) (its : List Value) : Prop where
  v : Vals ((ws.take its.length).map fun c => V.str (Txt.replace c y z)) its
  o : ∀ (j : Nat) (c : Str) (t : Nat), its[j]? = some (.str c t) → us[j]? = some (.str c t) ∨ (B ≤ t ∧ t < T)
  d : ∀ (i j : Nat) (c d : Str) (t : Nat), its[i]? = some (.str c t) → its[j]? = some (.str d t) → i = j
theorem LW.nil {B T : Nat} {ws : List Str} {us : List Value} {y z : Str} : LW B T ws us y z [] := ⟨.nil, (fun _ _ _ e => by simp at e), fun _ _ _ _ _ e => by simp at e⟩
theorem LW.up {B T T' : Nat} {ws : List Str} {us : List Value} {y z : Str} {its : List Value} (h : LW B T ws us y z its) (l : T ≤ T') : LW B T' ws us y z its :=
  ⟨h.v, fun j c t e => (h.o j c t e).imp id fun q => ⟨q.1, Nat.lt_of_lt_of_le q.2 l⟩, h.d⟩
theorem LW.snoc {m k B T T' : Nat} {ws : List Str} {us : List Value} {y z x : Str} {its : List Value} {t u : Nat} (h : LW B T ws us y z its) (tk : TkL m k ws us) (kB : k ≤ B) (hu : us[its.length]? = some (.str x t))
    (q : (u = t ∧ x = Txt.replace x y z) ∨ (T ≤ u ∧ u < T')) (BT : B ≤ T) (l : T ≤ T') : LW B T' ws us y z (its ++ [.str (Txt.replace x y z) u]) := by
  have hw := (tk.lt hu).2.2
  have at_ : ∀ {j : Nat} {c : Str} {t' : Nat}, (its ++ [Value.str (Txt.replace x y z) u])[j]? = some (.str c t') → (j < its.length ∧ its[j]? = some (.str c t')) ∨ (j = its.length ∧ c = Txt.replace x y z ∧ t' = u) := fun {j c t'} e => by
    by_cases hj : j < its.length
    · rw [List.getElem?_append_left hj] at e; exact .inl ⟨hj, e⟩
    · rw [List.getElem?_append_right (by omega)] at e
      have e0 : j - its.length = 0 := by
        have := (List.getElem?_eq_some_iff.mp e).1
        simpa using this
      rw [e0] at e
      simp at e
      exact .inr ⟨by omega, e.1.symm, e.2.symm⟩
  have old : ∀ {j : Nat} {c : Str} {t' : Nat}, us[j]? = some (.str c t') → t' < B := fun e => Nat.lt_of_lt_of_le (tk.lt e).2.1 kB
  refine ⟨?_, fun j c t' e => ?_, fun i j c d t' e f => ?_⟩
  · rw [List.length_append, show [Value.str (Txt.replace x y z) u].length = 1 from rfl, List.take_add_one, hw, List.map_append]
    exact h.v.append (.cons ⟨_, rfl⟩ .nil)
  · rcases at_ e with ⟨_, e⟩ | ⟨rfl, rfl, rfl⟩
    · exact (h.o j c t' e).imp id fun q => ⟨q.1, Nat.lt_of_lt_of_le q.2 l⟩
    · rcases q with ⟨rfl, ex⟩ | ⟨h1, h2⟩
      · exact .inl (by rw [← ex]; exact hu)
      · exact .inr ⟨Nat.le_trans BT h1, h2⟩
  · rcases at_ e with ⟨hi, e'⟩ | ⟨rfl, _, rfl⟩
    · rcases at_ f with ⟨hj, f'⟩ | ⟨rfl, _, rfl⟩
      · exact h.d i j c d t' e' f'
      · exfalso
        rcases h.o i c _ e' with e1 | ⟨e1, e2⟩
        · rcases q with ⟨rfl, _⟩ | ⟨h1, h2⟩
          · exact Nat.lt_irrefl _ (tk.idx e1 hu ▸ hi)
          · have := old e1; omega
        · rcases q with ⟨rfl, _⟩ | ⟨h1, h2⟩
          · have := old hu; omega
          · omega
    · rcases at_ f with ⟨hj, f'⟩ | ⟨rfl, _, _⟩
      · exfalso
        rcases h.o j d _ f' with e1 | ⟨e1, e2⟩
        · rcases q with ⟨rfl, _⟩ | ⟨h1, h2⟩
          · exact Nat.lt_irrefl _ (tk.idx e1 hu ▸ hj)
          · have := old e1; omega
        · rcases q with ⟨rfl, _⟩ | ⟨h1, h2⟩
          · have := old hu; omega
          · omega
      · rfl
theorem LW.unl {m k B T : Nat} {ws : List Str} {us : List Value} {y z : Str} {its : List Value} (h : LW B T ws us y z its) (tk : TkL m k ws us) (m1 : 1 ≤ m) (B1 : 1 ≤ B) (e : its.length = ws.length) : Unl (ws.map fun c => Txt.replace c y z) its := by
  refine ⟨?_, fun i j c d t u ei ej => ⟨?_, fun z => ?_⟩⟩
  · have := h.v
    rw [e, List.take_length] at this
    rw [List.map_map]; exact this
  · rcases h.o i c t ei with h1 | h1
    · have := (tk.lt h1).1; omega
    · omega
  · subst z
    have := h.d i j c d t ei ej
    subst this
    rw [ei] at ej
    injection ej with ej
    injection ej
end Pd

set_option maxHeartbeats 4000000
namespace Pd
open PySem PySem.Spec PyProof.Rows L2
theorem lcW {X : Cx} {pins : List (Addr × Obj)} {s : Shared} {σ : L2.St} {H : Hp} {elt iter : Expr} {kx : Str} {ik : Nat} {px pos pos' : Pos} {scope : Scope} {own : List (Str × Nat)} {m k : Nat} {cs : List Str} {y z : Str} {ti : TE} {use : Option (Value → Sem Unit)} {Qf : Value → Shared → Prop}
    (hc : X.calm = true) (hN : X.N.Nodup) (I : Inv X pins σ H s) (hk : k ≤ s.toks) (h1 : 1 ≤ s.toks) (hm : 1 ≤ m) (hi : PE X iter ti) (ok : BlkOk X.N X.env.scope scope own) (hik : ik ∈ own.map (·.2)) (hx : X.N[ik]? = some kx) (hl : scope.names.lookup kx = some .local)
    (he : ∀ (s : Shared) (H : Hp) (C : Addr) (cl : List (Str × Addr)) (fp : List Addr), ElW (X.blk s H scope (compEnvC scope cl C X.env) fp) elt kx y z)
    (hs : ∀ x, foldedSetIterable iter X.env x = pure x) (hzl : ∀ c ∈ cs, c.length ≤ 1000) (hzc : cs.length ≤ 1000)
    {C0 : V → Hp → Prop} (h : ti σ H C0)
    (hC : ∀ v H1, C0 v H1 → ∃ L, v = .ref L ∧ TxM m k H1 L cs ∧
      ∀ D its nn mm s' C, Inv X pins σ H1 s' → Unl (cs.map fun c => Txt.replace c y z) its → s'.heap.get? D = some { cls := .type "list", data := .seq its.toArray nn } → H1 D = none → FpOk X pins H1 D → s'.heap.Ns C mm → FpOk X pins H1 C → D ≠ C → s.toks ≤ s'.toks → compPost (model X.prog X.w) X.A X.xe use Qf (.ref D) C (.ok .next) s') :
    wpAny (model X.prog X.w) X.A (comprehension (.ListComp elt [⟨.Name kx px, iter, [], 0⟩] scope pos) scope X.env pos' (newList []) false (eval iter X.env) use) Qf X.xe s := by
  have hfree : ∀ y ∈ scope.names, y.2 = .free → ∃ c, X.env.cells.lookup y.1 = some c := fun y hy e => by
    rcases ok.free y hy e with k | k
    · exact I.ok.has _ (.inl k)
    · exact I.ok.has _ (.inr k)
  refine wpAny_comprehension_free (use := use) rfl hs (closure_ok hfree) ok.kind (fun y hy e => by rw [ok.uniq y hy, e]) (thn (tkE (Nat.le_refl s.toks) (hi.run pins s σ H C0 I h)) ?_)
  rintro xv s1 ⟨l1, v, H2, I1, r1, hv⟩
  obtain ⟨L, rfl, ⟨us, nL, hf, tk⟩, fin⟩ := hC v H2 hv
  obtain rfl : xv = Value.ref L := r1
  obtain ⟨hobL, _⟩ := I1.hok L _ hf
  have key : wpAny (model X.prog X.w) X.A (pyIter (.ref L)) (fun itv s2 => ∃ it, itv = .ref it ∧ Inv X pins σ H2 s2 ∧ s2.heap.IsListIter it L 0 ∧ FpOk X pins H2 it ∧ s1.toks ≤ s2.toks) X.xe s1 :=
    wpAny_pyIter_list (⟨_, hobL, rfl, nL, rfl⟩ : s1.heap.IsList L us.toArray) ⟨s1.heap.objs.size, rfl, I1.kept (t' := s1.toks) fun b o e => Heap.get?_push_of_some _ e, ⟨_, Heap.get?_push_size _ rfl, rfl, rfl⟩, I1.fpOk (Nat.le_refl _) (I1.hok.fresh (Nat.le_refl _)), Nat.le_refl _⟩
  refine thn key ?_
  rintro itv s2 ⟨it, rfl, I2, st2, f2, t2⟩
  have T := turn_list (P := X.prog) (w := X.w) (K := X.K) (tg := .Name kx px) L it
  refine wpAny_newObj_type (newEnv_comp ?_) (by show 0 ≤ sizeLine; decide)
  generalize hD : s2.heap.objs.size = D
  have dn : H2 D = none := I2.hok.fresh (Nat.le_of_eq hD)
  generalize hs3 : ({ s2 with heap := s2.heap.push { cls := .type "list", data := .seq ([] : List Value).toArray } } : Shared) = s3
  have I3 : Inv X pins σ H2 s3 := by
    rw [← hs3]
    exact I2.kept (t' := s2.toks) fun b o e => Heap.get?_push_of_some _ e
  have t3 : s3.toks = s2.toks := by rw [← hs3]
  have h3 : s3.heap = s2.heap.push { cls := .type "list", data := .seq ([] : List Value).toArray } := by rw [← hs3]
  have gD : s3.heap.get? D = some { cls := .type "list", data := .seq ([] : List Value).toArray } := by
    rw [h3, ← hD]
    exact Heap.get?_push_size _ rfl
  have szit : it < s2.heap.objs.size := by
    obtain ⟨o, e, _⟩ := st2
    exact Heap.lt_size e
  have nDi : D ≠ it := by rw [← hD]; exact Nat.ne_of_gt szit
  have fD0 : FpOk X pins H2 D := I2.fpOk (Nat.le_of_eq hD) dn
  have f3 : ∀ b ∈ [D, it], FpOk X pins H2 b ∧ b < s3.heap.objs.size := fun b hb => by
    simp only [List.mem_cons, List.mem_nil_iff, or_false] at hb
    rcases hb with rfl | rfl
    · exact ⟨fD0, Heap.lt_size gD⟩
    · exact ⟨f2, by rw [h3, Heap.size_push]; exact Nat.lt_succ_of_lt szit⟩
  have st3 : s3.heap.IsListIter it L 0 := T.keep _ _ _ st2 fun b _ o e => by rw [h3]; exact Heap.get?_push_of_some _ e
  have I4 := block_start I3 ok hN f3
  have pe := he s3 H2 s3.heap.objs.size (cellsFrom (s3.heap.objs.size + 1) scope.names (cloFrom X.env.cells scope.names [])) [D, it]
  show codeAny _ _ (.compStart (.ListComp elt [⟨.Name kx px, iter, [], 0⟩] scope pos) 0 (.ref it) (.ref D) (compEnvC scope (cellsFrom (s3.heap.objs.size + 1) scope.names (cloFrom X.env.cells scope.names [])) s3.heap.objs.size X.env)) (compPost (model X.prog X.w) X.A X.xe use Qf (.ref D) s3.heap.objs.size) { s3 with heap := pushCells (s3.heap.push { cls := .type "dict", data := .dict #[] }) scope.names }
  have cS : (compEnvC scope (cellsFrom (s3.heap.objs.size + 1) scope.names (cloFrom X.env.cells scope.names [])) s3.heap.objs.size X.env).scope.names.lookup kx = some .local := lookup_relabel_local hl
  generalize hce : compEnvC scope (cellsFrom (s3.heap.objs.size + 1) scope.names (cloFrom X.env.cells scope.names [])) s3.heap.objs.size X.env = ce at I4 pe cS ⊢
  have cL : ce.locals = s3.heap.objs.size := by subst hce; rfl
  have up3 : ∀ b o, s3.heap.get? b = some o → (pushCells (s3.heap.push { cls := .type "dict", data := .dict #[] }) scope.names).get? b = some o := fun b o e => pushCells_keeps _ _ _ _ (Heap.get?_push_of_some _ e)
  generalize hs4 : ({ s3 with heap := pushCells (s3.heap.push { cls := .type "dict", data := .dict #[] }) scope.names } : Shared) = s4 at I4 ⊢
  have t4 : s4.toks = s2.toks := by rw [← hs4]; exact t3
  have st4 : s4.heap.IsListIter it L 0 := T.keep _ _ _ st3 fun b _ o e => by rw [← hs4]; exact up3 b o e
  have gD4 : s4.heap.get? D = some { cls := .type "list", data := .seq ([] : List Value).toArray } := by rw [← hs4]; exact up3 _ _ gD
  have B4 : s.toks ≤ s4.toks := by rw [t4]; exact Nat.le_trans l1 t2
  have nn2 : ∀ b ∈ [D, it], H2 b = none := fun b hb => (f3 b hb).1.1
  have stat : ∀ {σ' : L2.St} {s' : Shared}, Inv (X.blk s3 H2 scope ce [D, it]) [] σ' H2 s' → ∀ b ∈ [D, it], FpOk (X.blk s3 H2 scope ce [D, it]) [] H2 b := fun {σ' s'} I' b hb =>
    ⟨nn2 b hb, (I'.ok.exf b hb).1, I'.ok.exfs b hb, .inl hb, fun x c e => (I'.ok.exf b hb).2 x c e, fun p hp => absurd (show p ∈ ([] : List (Addr × Obj)) ++ [] from hp) (by simp)⟩
  have ul : us.length = cs.length := by have := tk.vals.length; rw [List.length_map] at this; exact this.symm
  have loop : codeAny (model X.prog X.w) X.A (.compLoop (.ListComp elt [⟨.Name kx px, iter, [], 0⟩] scope pos) 0 (.ref it) (.ref D) ce) (compPost (model X.prog X.w) X.A X.xe use Qf (.ref D) s3.heap.objs.size) s4 := by
    refine compLoop_any (fun n s' => ∃ its nn, n = cs.length - its.length ∧ its.length ≤ cs.length ∧ Inv (X.blk s3 H2 scope ce [D, it]) [] (wipe σ (own.map (·.2))) H2 s' ∧ s'.heap.IsListIter it L its.length ∧
      LW s.toks s'.toks cs us y z its ∧ s.toks ≤ s'.toks ∧ s'.heap.get? D = some { cls := .type "list", data := .seq its.toArray nn }) ?_ cs.length
      ⟨[], 0, (Nat.sub_zero _).symm, Nat.zero_le _, I4, st4, .nil, B4, gD4⟩
    rintro m5 s5 ⟨its, nn, rfl, hle, I5, st5, lw, ts, g5⟩
    have I5' : Inv (X.blk s3 H2 scope ce [D, it]) ([] ++ pinsAt [D] s5.heap) (wipe σ (own.map (·.2))) H2 s5 :=
      I5.pinned (fp := [D]) (fun b hb => stat I5 b (by rw [List.mem_singleton.mp hb]; exact List.mem_cons_self)) fun b hb => by
        rw [List.mem_singleton.mp hb]
        exact ⟨_, g5, fun v z => nomatch z⟩
    have pinD : ∀ {pl : List (Addr × Obj)} {σ' : L2.St} {s' : Shared}, Inv (X.blk s3 H2 scope ce [D, it]) (([] ++ pinsAt [D] s5.heap) ++ pl) σ' H2 s' → s'.heap.get? D = some { cls := .type "list", data := .seq its.toArray nn } := fun J =>
      (J.pin (D, _) (List.mem_append_right _ (List.mem_append_left _ (List.mem_append_right _ (mem_pinsAt (List.mem_singleton.mpr rfl) g5))))).1
    have fit : ∀ {σ' : L2.St} {s' : Shared}, Inv (X.blk s3 H2 scope ce [D, it]) ([] ++ pinsAt [D] s5.heap) σ' H2 s' → FpOk (X.blk s3 H2 scope ce [D, it]) ([] ++ pinsAt [D] s5.heap) H2 it := fun {σ' s'} I' => by
      have hb' : it ∈ [D, it] := by simp
      refine ⟨nn2 it hb', (I'.ok.exf it hb').1, I'.ok.exfs it hb', .inl hb', fun x c e => (I'.ok.exf it hb').2 x c e, fun p hp => ?_⟩
      have hp' : p ∈ pinsAt [D] s5.heap := by simpa using hp
      have e := (of_pinsAt hp').1
      rw [List.mem_singleton.mp e]
      exact nDi
    have hL5 : s5.heap.get? L = some { cls := .type "list", data := .seq us.toArray nL } := (I5.hok L _ hf).1
    by_cases hlt : its.length < cs.length
    · obtain ⟨t, hu, tk1, tk2⟩ := tk.get (i := its.length) (List.getElem?_eq_getElem hlt)
      generalize hcx : cs[its.length] = x at hu
      have xl : x.length ≤ 1000 := by rw [← hcx]; exact hzl _ (List.getElem_mem hlt)
      have ti := itemW (tg := .Name kx px) (E := fun _ _ => False) (E' := fun _ _ => False) I5' (fit I5') st5 hL5 hu
      refine thnF (tkE (Nat.le_refl s5.toks) ti) ?_
      rintro r s6 ⟨l6, rfl, h6⟩
      refine thnF (tkE l6 h6) ?_
      rintro _ s7 ⟨l7, I7, st7⟩
      obtain ⟨o7, e7, c7, d7⟩ := id st7
      have I7' := I7.pinned (fp := [it]) (fun b hb => by rw [List.mem_singleton.mp hb]; exact fit I7) fun b hb => by
        rw [List.mem_singleton.mp hb]
        exact ⟨o7, e7, fun v z => by rw [d7] at z; cases z⟩
      refine wpAny_assign_Name (store_raw (v := V.str x) I7' hN hx cS ⟨t, rfl⟩ fun s8 I8 K8 _ l8 => ?_)
      refine wpAny_tests_nil ?_
      simp only [if_true]
      have ts8 : s5.toks ≤ s8.toks := Nat.le_trans l7 l8
      refine pe.run _ s8 _ _ _ _ _ _ (by omega) I8 K8 xl fun u k' hu' hk' => ?_
      generalize hs10 : ({ s8 with toks := k' } : Shared) = s10
      have t10 : s10.toks = k' := by rw [← hs10]
      have I10 : Inv (X.blk s3 H2 scope ce [D, it]) (([] ++ pinsAt [D] s5.heap) ++ pinsAt [it] s7.heap) ((wipe σ (own.map (·.2))).set ik (some (V.str x))) H2 s10 := by rw [← hs10]; exact I8.tok k'
      have gD10 := pinD I10
      have its10 : its.toArray.size ≤ sizeLine := by
        rw [List.size_toArray, sizeLine_eq]; omega
      refine append_at (hsz := its10) gD10 fun g sb hg' => ?_
      have eit : s10.heap.get? it = some o7 :=
        (I10.pin (it, o7) (List.mem_append_right _ (List.mem_append_right _ (mem_pinsAt (List.mem_singleton.mpr rfl) e7)))).1
      have hl' : (wipe σ (own.map (·.2))).length = ((wipe σ (own.map (·.2))).set ik (some (V.str x))).length := by simp
      have J10 : Inv (X.blk s3 H2 scope ce [D, it]) [] (wipe σ (own.map (·.2))) H2 s10 := by
        refine (((I10.unpinned).unpinned) : Inv (X.blk s3 H2 scope ce [D, it]) [] _ H2 s10).weak hl' fun j v e => ?_
        obtain ⟨e1, e2⟩ := wipe_some e
        have nji : ik ≠ j := fun z => e2 (z ▸ hik)
        rw [List.getElem?_set_ne nji]
        exact e
      obtain ⟨f0, f1, f2', f3', f4, f5⟩ := stat J10 D List.mem_cons_self
      have J11 : Inv (X.blk s3 H2 scope ce [D, it]) [] (wipe σ (own.map (·.2))) H2 { s10 with heap := g } := J10.turned (t' := s10.toks) (fun b o hb e => (sb.2 b hb).trans e) f0 f1 f3' f4 f5
      have hT : s5.toks ≤ s10.toks := by rw [t10]; omega
      refine ⟨cs.length - (its.length + 1), by omega, its ++ [.str (Txt.replace x y z) u], nn + 1, by rw [List.length_append]; rfl, by rw [List.length_append]; exact hlt, J11, ?_, ?_, ?_, ?_⟩
      · rw [List.length_append]
        exact ⟨o7, (sb.2 it (Ne.symm nDi)).trans eit, c7, d7⟩
      · show LW s.toks s10.toks cs us y z _
        refine lw.snoc tk hk hu ?_ ts hT
        rcases hu' with h' | ⟨h1', h2'⟩
        · exact .inl h'
        · exact .inr ⟨by omega, by rw [t10]; exact h2'⟩
      · exact Nat.le_trans ts hT
      · rw [hg']
        simp
    · have ein : its.length = cs.length := by omega
      have td := T.done (X.blk s3 H2 scope ce [D, it]) rfl rfl rfl hc its.length _ s5 _ H2 (fun _ _ => False) I5' (fun b hb => by rw [List.mem_singleton.mp hb]; exact fit I5') st5 ⟨cs.map V.str, .inl (.inr ⟨_, hf⟩), by rw [List.length_map]; omega⟩
      refine thnF (tkE (Nat.le_refl s5.toks) td) ?_
      rintro r s6 ⟨l6, rfl, I6⟩
      have gD6 := pinD (pl := []) (by simpa using I6)
      have I7 : Inv X pins σ H2 s6 := I3.call' (ch := [D, it]) I6.os I6.base I6.hok I6.bare fun b hb => ⟨(f3 b hb).1.2.2.2.1, (f3 b hb).1.2.1, (f3 b hb).1.2.2.2.2.1, (f3 b hb).1.2.2.2.2.2⟩
      have nC : H2 s3.heap.objs.size = none := by
        have z : H2 ce.locals = none := I6.free
        rw [cL] at z
        exact z
      obtain ⟨mm, hn', _⟩ := I6.loc
      have hn' : s6.heap.Ns ce.locals mm := hn'
      rw [cL] at hn'
      exact fin D its nn mm s6 _ I7 (lw.unl tk hm h1 ein) gD6 dn fD0 hn' (I3.fpOk (Nat.le_refl _) nC) (Nat.ne_of_lt (Heap.lt_size gD)) (Nat.le_trans ts l6)
  exact codeAny_compStart_list loop (T.self X.A 0 _ _ _ st4 loop)
end Pd

set_option maxHeartbeats 4000000
namespace Pd
open PySem PySem.Spec PyProof.Rows L2
/-! ### words = part.split(..), values = [word.replace(..) for word in words[..]] -/
def tWords (ip iw iv : Nat) (sep y z : Str) (ti : TE) (t : TS) : TS := fun D σ H => ∃ a, σ[ip]? = some (some (.str a)) ∧ a.length ≤ 1000 ∧ 1 < (Txt.split a sep).length ∧ (∀ c ∈ Txt.split a sep, c.length ≤ 1000) ∧ (Txt.split a sep).length ≤ 1000 ∧
  ∀ p m k H1, H p = none → TxM m k H1 p (Txt.split a sep) → (∀ c, c ≠ p → H1 c = H c) → ti (σ.set iw (some (.ref p))) H1 fun v H2 => ∃ L, v = .ref L ∧ TxM m k H2 L (Txt.split a sep).tail ∧
    ∀ q H3, H2 q = none → TxU H3 q ((Txt.split a sep).tail.map fun c => Txt.replace c y z) → (∀ c, c ≠ q → H3 c = H2 c) → t D ((σ.set iw (some (.ref p))).set iv (some (.ref q))) H3
/-- an object that is there already, from now on one of ours -/
theorem adopt {X : Cx} {pins : List (Addr × Obj)} {σ : L2.St} {H : Hp} {s : Shared} {a : Addr} {o : HO} (I : Inv X pins σ H s) (f : FpOk X pins H a) (new : ObjOk X.prog X.w (upd H a o) s.heap a o) : Inv X pins σ (upd H a o) s := by
  obtain ⟨f0, f1, f2, f3, f4, f5⟩ := f
  refine ⟨I.ok, I.os, I.bare, ⟨I.base.keep, I.base.slot, fun b ob e n hx => ?_, I.base.there, fun b xs e => ?_, fun b ob u e => ?_, fun b ps e => ?_⟩, I.loc, I.cell, ?_, fun x c e => ?_, fun p hp => ?_, I.hok.laidN (fun _ _ e => e) f0 new, I.len⟩
  · have : b ≠ a := by
      rintro rfl
      rcases f3 with f3 | f3
      · exact hx f3
      · exact Nat.lt_irrefl _ (Nat.lt_of_lt_of_le (Heap.lt_size e) f3)
    rw [upd_ne this]; exact I.base.free b ob e n hx
  · have e1 := I.base.tups b xs e
    rw [upd_ne (ne_of_none e1 f0)]; exact e1
  · have e1 := I.base.frzs b ob u e
    rw [upd_ne (ne_of_none e1 f0)]; exact e1
  · obtain ⟨more, e1⟩ := I.base.tbls b ps e
    exact ⟨more, by rw [upd_ne (ne_of_none e1 f0)]; exact e1⟩
  · rw [upd_ne (Ne.symm f1)]; exact I.free
  · rw [upd_ne (f4 x c e)]; exact I.freeC x c e
  · obtain ⟨e, n, r⟩ := I.pin p hp
    exact ⟨e, by rw [upd_ne (f5 p hp)]; exact n, r⟩
theorem pssn_words {X : Cx} {n : Nat} {ip iw iv ik : Nat} {px wx vx kx sep y z : Str} {iter elt : Expr} {ti : TE} {t : TS} {rest : List Stmt} {scope : Scope} {own : List (Str × Nat)} {j : Nat} {a1 a2 c0 apos pos spos b1 lpos sp2 kp : Pos}
    (hn : 1 ≤ n) (hc : X.calm = true) (hN : X.N.Nodup) (hp : X.N[ip]? = some px) (hw : X.N[iw]? = some wx) (hv : X.N[iv]? = some vx) (hk : X.N[ik]? = some kx)
    (lp : X.env.scope.names.lookup px = some .local) (lw : X.env.scope.names.lookup wx = some .local) (lv : X.env.scope.names.lookup vx = some .local) (lk : scope.names.lookup kx = some .local)
    (hsep : (sep.length == 0) = false) (dp : (px == ("__debug__" : Str)) = false)
    (hst : starEach [.Constant (.str sep) j c0] X.env = [(false, eval (.Constant (.str sep) j c0) X.env)])
    (hbase : attributeBase (.Name px a1) "split" X.env (eval (.Name px a1) X.env) = eval (.Name px a1) X.env) (hline : (apos.endLine == pos.line) = true)
    (hsw1 : swapsWith (.Call (.Attribute (.Name px a1) "split" apos) [.Constant (.str sep) j c0] [] pos) (some (.Name wx a2)) spos.line X.env = pure false)
    (hi : PE X iter ti) (ok : BlkOk X.N X.env.scope scope own) (hik : ik ∈ own.map (·.2))
    (he : ∀ (s : Shared) (H : Hp) (C : Addr) (cl : List (Str × Addr)) (fp : List Addr), ElW (X.blk s H scope (compEnvC scope cl C X.env) fp) elt kx y z)
    (hs : ∀ x, foldedSetIterable iter X.env x = pure x)
    (hsw2 : swapsWith (.ListComp elt [⟨.Name kx kp, iter, [], 0⟩] scope lpos) (some (.Name vx b1)) sp2.line X.env = pure true) (hr : PSsn n X rest t) :
    PSsn n X (.Assign [.Name wx a2] (.Call (.Attribute (.Name px a1) "split" apos) [.Constant (.str sep) j c0] [] pos) spos :: .Assign [.Name vx b1] (.ListComp elt [⟨.Name kx kp, iter, [], 0⟩] scope lpos) sp2 :: rest) (tWords ip iw iv sep y z ti t) := by
  constructor
  intro pins s σ H D l I h
  obtain ⟨a, hσ, ha, h1, hcl, hcn, h⟩ := h
  refine wpAny_execs_cons (wpAny_Assign_Name ?_ hsw1)
  obtain ⟨mm, hns, hloc⟩ := I.loc
  obtain ⟨ua, ra, la⟩ := hloc ip px _ hp hσ (.inl lp)
  obtain ⟨ta, rfl⟩ := ra
  have lm : X.env.kindOf px = some .local ∧ mm px = some (.str a ta) := by
    rcases la with q | ⟨hkd, _⟩
    · exact q
    · exfalso
      have hv' : X.env.kindOf px = some .local := lp
      rw [hv'] at hkd
      rcases hkd with h | h <;> cases h
  obtain ⟨hkd, hm⟩ := lm
  have load : ∀ {Q E : Value → Shared → Prop}, Q (.str a ta) s → wpAny (model X.prog X.w) X.A (eval (.Name px a1) X.env) Q E s := fun q => wpAny_Name (wpAny_loadName_local I.ok.kind hkd hns hm q) dp
  refine PySem.Call_method1 hbase hst hline (load ?_)
  refine ⟨"str", _, F.plainAttrs_str, F.slot_str_split, F.type_str_split, typeIs_str _ _ _, (fun _ e => nomatch e), Calls.callWith_builtin rfl (Calls.evalArgs_plain (Calls.spliced_cons (Calls.Constant_str (Calls.spliced_nil ?_))))⟩
  refine split_raw (I.tok (s.toks + 1)) hsep (by rw [sizeLine_eq]; omega) h1 (by show 1 ≤ s.toks + 1; omega) fun p m k s1 hp0 m1 k1 H1 tx same I1 l1 => ?_
  have l1 : s.toks + 1 ≤ s1.toks := l1
  refine store_raw (v := V.ref p) I1 hN hw lw rfl fun s2 I2 _ _ l2 => ?_
  have h2 := h p m k H1 hp0 tx same
  refine wpAny_execs_cons ?_
  rw [exec_Assign_Name_used _ _ _ _ hsw2]
  refine wpAny_bind (wpAny_standAt (wpAny_bind ?_))
  show wpAny _ X.A (do let _ ← comprehension (.ListComp elt [⟨.Name kx kp, iter, [], 0⟩] scope lpos) scope X.env (firstIterPos [⟨.Name kx kp, iter, [], 0⟩] lpos) (newList []) false (eval iter X.env) (some (assign (.Name vx b1) X.env))) _ _ s2
  refine wpAny_bind (thn (lcW (Qf := fun _ s' => wpAny (model X.prog X.w) X.A (execs rest X.env) (SP X pins D) X.xe s') hc hN I2 (Nat.le_trans k1 l2) (by omega) m1 hi ok hik hk lk he hs (fun c hc' => hcl c (List.mem_of_mem_tail hc')) (by rw [List.length_tail]; omega) h2 ?_) fun _ s' hq => wpAny_pure (wpAny_pure hq))
  rintro v H2 ⟨L, rfl, txL, fin⟩
  refine ⟨L, rfl, txL, fun DD its nn mm' s3 C I3 unl gD hD fD hnC fC nDC l3 => ?_⟩
  show wpAny _ _ (assign (.Name vx b1) X.env (.ref DD)) _ _ _
  have lts : its.length ≤ 1000 := by
    have e := unl.1.length
    rw [List.length_map, List.length_map, List.length_tail] at e
    omega
  have I4 := adopt (o := .frz { cls := .type "list", data := .seq its.toArray nn } (.lst (((Txt.split a sep).tail.map fun c => Txt.replace c y z).map V.str))) I3 fD ⟨gD, by rw [unl.1.length, sizeLine_eq]; omega, its, nn, unl.1, gD⟩
  refine wpAny_assign_Name (thn (tkE (n := n) (by omega) (store_ok2 (v := V.ref DD) (Q := fun _ s4 => Inv X pins ((σ.set iw (some (V.ref p))).set iv (some (V.ref DD))) (upd H2 DD (.frz { cls := .type "list", data := .seq its.toArray nn } (.lst (((Txt.split a sep).tail.map fun c => Txt.replace c y z).map V.str)))) s4 ∧ ∃ b, s3.heap.SameBut b s4.heap ∧ (b = X.env.locals ∨ X.env.cells.lookup vx = some b)) I4 hN hv (.inl lv) rfl (fun s4 I5 h5 => ⟨I5, h5⟩) (.inr lv))) ?_)
  rintro _ s4 ⟨l4, I5, b, sb, hb⟩
  obtain ⟨f0, f1, f2, f3, f4, f5⟩ := fC
  have hbC : C ≠ b := by
    rcases hb with z | z
    · rw [z]; exact f1
    · exact fun e => f4 vx b z e.symm
  refine ⟨mm', hnC.sameBut sb hbC, fun h3 sb3 => ?_⟩
  have fC' : H2 C = none := f0
  refine hr.run pins _ _ _ D l4 (I5.turned (t' := s4.toks) (fun b o hb e => (sb3.2 b hb).trans e) (by rw [upd_ne (Ne.symm nDC)]; exact f0) f1 f3 f4 f5) (fin DD _ hD ⟨its, nn, upd_same, unl⟩ fun c hc => upd_ne hc)
end Pd

set_option maxHeartbeats 4000000
namespace Pd
open PySem PySem.Spec PyProof.Rows L2
/-! ### xs + texts, and the tuple of that: the texts' tokens stay known -/
def CatU (T : String) (H : Hp) (p : Addr) (xs : List V) (cs : List Str) : Prop :=
  ∃ (us its : List Value) (n : Nat), Vals xs us ∧ H p = some (.frz { cls := .type T, data := .seq (us ++ its).toArray n } (if T = "list" then .lst (xs ++ cs.map V.str) else .tup (xs ++ cs.map V.str))) ∧ Unl cs its
def rCatU : R2 := fun x y H Q => ∃ l b xs cs, x = .ref l ∧ y = .ref b ∧ H l = some (.lst xs) ∧ TxU H b cs ∧ xs.length + cs.length ≤ sizeLine ∧ ∀ p H', H p = none → CatU "list" H' p xs cs → (∀ c, c ≠ p → H' c = H c) → Q (.ref p) H'
theorem op_catU {X : Cx} : OpR X (binaryOp .Add) rCatU := by
  intro pins s σ H x y v u Q I rx ry h
  obtain ⟨l, b, xs, cs, rfl, rfl, hH, ⟨its2, n2, hB, un⟩, hz, q⟩ := h
  cases rx
  cases ry
  obtain ⟨z, its, n, r, hl, e⟩ := I.lstM hH
  obtain ⟨hob, _⟩ := I.hok b _ hB
  have l2 : cs.length = its2.length := by have := un.1.length; rwa [List.length_map] at this
  refine PySem.P.add_list e hob ?_ (by rw [List.size_toArray, List.size_toArray]; omega)
  have ea : its.toArray ++ its2.toArray = (its ++ its2).toArray := by simp
  rw [ea]
  have I' : Inv X pins σ (upd H s.heap.objs.size (.frz { cls := .type "list", data := .seq (its ++ its2).toArray 0 } (.lst (xs ++ cs.map V.str)))) { s with heap := s.heap.push { cls := .type "list", data := .seq (its ++ its2).toArray 0 }, toks := s.toks } :=
    I.laid (t' := s.toks) (fun b o q => Heap.get?_push_of_some _ q) (Nat.le_refl _) ⟨Heap.get?_push_size _ rfl, by rw [List.length_append, List.length_map]; exact hz, its ++ its2, 0, r.append un.1, Heap.get?_push_size _ rfl⟩
  exact ⟨.ref _, _, I', rfl, q _ _ I.fresh ⟨its, its2, 0, r, by rw [upd_same]; rfl, un⟩ fun c hc => upd_ne hc⟩
theorem call_tupU {X : Cx} : CallR X (.type "tuple") (fun as H Q => ∃ p xs cs, as = [.ref p] ∧ CatU "list" H p xs cs ∧ ∀ l H', H l = none → CatU "tuple" H' l xs cs → (∀ c, c ≠ l → H' c = H c) → Q (.ref l) H') := by
  intro pins s σ H as us Q I r h
  obtain ⟨p, xs, cs, rfl, ⟨ua, its, n, va, hp, un⟩, q⟩ := h
  obtain ⟨u, rfl, rx⟩ := vals1 r
  cases rx
  rw [if_pos rfl] at hp
  obtain ⟨hob, hz, _⟩ := I.hok p _ hp
  have hl : (ua ++ its).length = (xs ++ cs.map V.str).length := (va.append un.1).length.symm
  refine call_tuple_list ⟨_, hob, rfl, n, rfl⟩ (fun h' kp => ?_) (by rw [List.size_toArray, hl]; exact hz)
  have I1 : Inv X pins σ H { s with heap := h' } := I.kept (t' := s.toks) kp
  have I2 : Inv X pins σ (upd H h'.objs.size (.frz { cls := .type "tuple", data := .seq (ua ++ its).toArray 0 } (.tup (xs ++ cs.map V.str)))) { s with heap := h'.push { cls := .type "tuple", data := .seq (ua ++ its).toArray 0 } } :=
    I1.laid (t' := s.toks) (fun b o e => Heap.get?_push_of_some _ e) (Nat.le_refl _) ⟨Heap.get?_push_size _ rfl, hz, ua ++ its, va.append un.1, ⟨_, Heap.get?_push_size _ rfl, rfl, _, rfl⟩⟩
  exact ⟨.ref h'.objs.size, _, I2, rfl, q _ _ (I1.hok.fresh (Nat.le_refl _)) ⟨ua, its, 0, va, by rw [upd_same]; rfl, un⟩ fun c hc => upd_ne hc⟩
theorem CatU.swap {H : Hp} {p : Addr} {a b : Str} (h : CatU "tuple" H p [.str "swap"] [a, b]) : SwapAt H p a b := by
  obtain ⟨us, its, n, v, e, un⟩ := h
  obtain ⟨u, rfl, ⟨t0, rfl⟩⟩ := vals1 v
  have v2 := un.1
  cases v2 with
  | cons r1 v2 =>
    cases v2 with
    | cons r2 v3 =>
      cases v3
      obtain ⟨t, rfl⟩ := r1
      obtain ⟨u, rfl⟩ := r2
      refine ⟨n, t0, t, u, e, (un.2 0 0 a a t t rfl rfl).1, (un.2 1 1 b b u u rfl rfl).1, fun z => (un.2 0 1 a b t u rfl rfl).2 z⟩
end Pd

set_option maxHeartbeats 4000000
namespace Pd
open PySem PySem.Spec PyProof.Rows L2
/-! ### a for, its body run where n tokens are out -/
theorem psn_for {n : Nat} {X : Cx} {tg over : Expr} {sts : List Stmt} {wi : TI} {g : TG} {tb : TS} {pos : Pos} (own : PassesOwn (model X.prog X.w) X.A X.env X.xe) (calm : X.calm = true) (hi : PI X tg over wi) (hg : PG X tg g) (hb : PSsn n X sts tb)
    (fs : ∀ x, foldedSetIterable over X.env x = pure x := by intro _; rfl) : PSn n X (.For tg over sts [] pos) (tFor wi g tb) := by
  constructor
  intro pins s σ H D l0 I h
  refine wpAny_For (thk l0 (hi.run pins s σ H _ I h) fun v t1 m1 k1 => thk m1 k1 fun iv t2 m2 k2 => ?_) fs
  obtain ⟨it, fp, tn, J, H2, rfl, I2, T, at2, fr2, W, ⟨q0, w0⟩, turn⟩ := k2
  have same : ∀ {G : Hp}, (∀ b ∈ fp, G b = none) → ∀ b ∈ fp, FpOk X pins G b := fun z b hb => ⟨z b hb, (fr2 b hb).2⟩
  refine codeAny_forLoop_any (fun c u => n ≤ u.toks ∧ ∃ i ρ G, Inv X pins ρ G u ∧ tn i u.heap ∧ (∀ b ∈ fp, G b = none) ∧ W i c ρ G) ?_ q0 ⟨m2, 0, σ, H2, I2, at2, fun b hb => (fr2 b hb).1, w0⟩
  rintro c u3 ⟨l3, i, ρ, G3, J3, at3, fr3, w3⟩
  rcases turn i c ρ G3 w3 with ⟨stop, fin⟩ | ⟨go, N, hN, step⟩
  · refine wpAny_passesOwn own (thn (T.done X rfl rfl rfl calm i pins u3 ρ G3 X.xe J3 (same fr3) at3 stop) ?_)
    rintro r u4 ⟨rfl, J4⟩
    exact wpAny_execs_nil ⟨ρ, G3, J4, fin⟩
  refine wpAny_passesOwn own (thk l3 (T.item X rfl rfl rfl calm i pins u3 ρ G3 X.xe J3 (same fr3) at3 go) ?_)
  rintro r u4 l4 ⟨z, rfl, k4⟩
  refine wpAny_passesOwn own (thk l4 k4 ?_)
  rintro _ u5 l5 ⟨x, G5, J5, r5, y5, at5, fr5⟩
  have J6 := J5.pinned (same fr5) (T.obj _ _ at5)
  refine wpAny_passesOwn own (thk l5 (hg.run _ u5 ρ G5 x z _ J6 r5 (step x G5 y5)) ?_)
  rintro _ u6 l6 ⟨ρ6, G6, J7, q6⟩
  refine wpAny_passesOwn own (thk l6 (hb.run _ u6 ρ6 G6 _ l6 J7 q6) ?_)
  intro f u7 l7 q7
  have more : ∀ {ρ7 : L2.St} {G7 : Hp}, Inv X (pins ++ pinsAt fp u5.heap) ρ7 G7 u7 → N ρ7 G7 → ∃ m, m < c ∧ n ≤ u7.toks ∧ ∃ i ρ' G', Inv X pins ρ' G' u7 ∧ tn i u7.heap ∧ (∀ b ∈ fp, G' b = none) ∧ W i m ρ' G' := by
    intro ρ7 G7 K7 n7
    obtain ⟨m', lt, w7⟩ := hN ρ7 G7 n7
    have pin : ∀ b ∈ fp, ∀ o, u5.heap.get? b = some o → _ := fun b hb o e => K7.pin (b, o) (List.mem_append_right _ (List.mem_append_right _ (mem_pinsAt hb e)))
    refine ⟨m', lt, l7, i + 1, ρ7, G7, K7.unpinned, T.keep _ _ _ at5 fun b hb o e => (pin b hb o e).1, fun b hb => ?_, w7⟩
    obtain ⟨o, e, _⟩ := T.obj _ _ at5 b hb
    exact (pin b hb o e).2.1
  cases f with
  | next => obtain ⟨ρ7, G7, K7, n7⟩ := q7; exact more K7 n7
  | cont => obtain ⟨ρ7, G7, K7, n7⟩ := q7; exact more K7 n7
  | brk => obtain ⟨ρ7, G7, K7, e7⟩ := q7; exact ⟨ρ7, G7, K7.unpinned, e7⟩
  | ret v => obtain ⟨x7, ρ7, G7, K7, r7, e7⟩ := q7; exact ⟨x7, ρ7, G7, K7.unpinned, r7, e7⟩
/-- two names at once, n tokens out -/
theorem psn_par {n : Nat} {X : Cx} {i j : Nat} {kx ky : Str} {e1 e2 : Expr} {tl : TA} {b1 b2 b3 b4 b5 : Pos} {k1 k2 : Nat} (calm : X.calm = true) (nd : X.N.Nodup) (hi : X.N[i]? = some kx) (hj : X.N[j]? = some ky) (ne : i ≠ j)
    (vx : X.env.scope.names.lookup kx = some .local) (vy : X.env.scope.names.lookup ky = some .local) (ha : PAn n X [e1, e2] tl)
    (sw : swappedStores [.Tuple [.Name kx b1, .Name ky b2] k1 b3] (.Tuple [e1, e2] k2 b4) X.env = pure (some [kx, ky]))
    (sole : swapsWithSole [.Tuple [.Name kx b1, .Name ky b2] k1 b3] (.Tuple [e1, e2] k2 b4) b5.line X.env = pure false := by rfl) :
    PSn n X (.Assign [.Tuple [.Name kx b1, .Name ky b2] k1 b3] (.Tuple [e1, e2] k2 b4) b5) (tPar i j tl) := by
  constructor
  intro pins s σ H D l0 I h
  rw [exec_Assign_arm]
  refine wpAny_bind (wpAny_standAt ?_)
  rw [sole]
  refine wpAny_bind (wpAny_pure ?_)
  rw [if_neg (by decide)]
  refine wpAny_bind (Tuple_ (thn (ha.run _ pins s σ H _ l0 I h) ?_))
  rintro us t1 ⟨vs, H1, J1, rs, v, z, rfl, fin⟩
  have two : ∃ c d, us = [c, d] ∧ RelV v c ∧ RelV z d := by
    rcases rs with _ | ⟨rv, rs⟩
    rcases rs with _ | ⟨rz, rs⟩
    cases rs
    exact ⟨_, _, rfl, rv, rz⟩
  obtain ⟨c, d, rfl, rv, rz⟩ := two
  refine wpAny_newObj_type ?_ (by show 2 ≤ sizeLine; decide)
  have J2 : Inv X pins σ H1 { t1 with heap := t1.heap.push { cls := .type "tuple", data := .seq [c, d].toArray } } := J1.kept (t' := t1.toks) fun b o q => Heap.get?_push_of_some _ q
  rw [sw]
  refine wpAny_bind (wpAny_pure ?_)
  show wpAny (model X.prog X.w) X.A (do rule "assign.swapped-stores"; let items ← unpackItems (.ref t1.heap.objs.size) 2 none; assignInOrder [fun v => bindName X.env ky v, fun v => bindName X.env kx v] items.reverse; pure Flow.next) _ _ _
  refine wpAny_bind (wpAny_rule (wpAny_bind (unpackItems_tuple (items := #[c, d]) (I.ok.hd calm) (IsTup.new t1.heap _) fun g hg => ?_)))
  have J3 := J2.kept (h' := g) (t' := t1.toks) fun b o q => hg b o (Nat.ne_of_lt (Heap.lt_size q)) q
  show wpAny _ _ (assignInOrder [fun v => bindName X.env ky v, fun v => bindName X.env kx v] [d, c] >>= fun _ => pure Flow.next) _ _ _
  refine wpAny_bind (assignInOrder_cons (wpAny_bindName (store_ok J3 nd hj (.inl vy) rz (fun t2 J4 => ?_) (.inr vy))))
  refine assignInOrder_cons (wpAny_bindName (store_ok J4 nd hi (.inl vx) rv (fun t3 J5 => assignInOrder_nil (wpAny_pure ?_)) (.inr vx)))
  rw [List.set_comm _ _ (Ne.symm ne)] at J5
  exact ⟨_, H1, J5, fin⟩
theorem PSsn.nox {n : Nat} {X : Cx} {sts : List Stmt} {t : TS} (h : PSsn n X.nox sts t) : PSsn n X sts t :=
  ⟨fun pins s σ H D l I q => wpAny_mono (h.run pins s σ H D l (I.wish _) q) (fun _ _ z => z.unwish) fun _ _ z => z.elim⟩
end Pd

set_option maxHeartbeats 4000000
namespace Pd
open PySem PySem.Spec PyProof.Rows L2
/-! ### or in a test, and as a value, n tokens out -/
structure PWn (n : Nat) (X : Cx) (e : Expr) (t : TT) : Prop where
  run : ∀ (whole : Sem Value) (pins : List (Addr × Obj)) (s : Shared) (σ : L2.St) (H : Hp) (Q : Bool → Hp → Prop), n ≤ s.toks → Inv X pins σ H s → t σ H Q → wpAny (model X.prog X.w) X.A (isTrue e X.env whole) (TP X pins σ Q) X.xe s
section
variable {X : Cx} {n : Nat} {a b : Expr} {more : List Expr} {t u : TT} {pos : Pos}
theorem PWn.ptn {e : Expr} (h : PWn n X e t) : PTn n X e t := ⟨fun pins s σ H Q l I q => h.run _ pins s σ H Q l I q⟩
theorem pwn_or1 (ha : PTn n X a t) : PWn n X (.BoolOp .Or [a] pos) t := by
  constructor
  intro wh pins s σ H Q l I h
  refine isTrue_or (thn (ha.run pins s σ H Q l I h) ?_)
  rintro (_ | _) s1 q
  · exact isTrue_or_nil q
  · exact q
theorem pwn_or (ha : PTn n X a t) (hb : PWn n X (.BoolOp .Or (b :: more) pos) u) : PWn n X (.BoolOp .Or (a :: b :: more) pos) (tOr t u) := by
  constructor
  intro wh pins s σ H Q l I h
  refine isTrue_or (thk l (ha.run pins s σ H _ l I h) ?_)
  rintro (_ | _) s1 l1 ⟨H1, I1, q⟩
  · exact hb.run wh pins s1 σ H1 Q l1 I1 q
  · exact ⟨H1, I1, q⟩
theorem pen_one {op} {e : Expr} {te : TE} (h : PEn n X e te) : PEn n X (.BoolOp op [e] pos) te := ⟨fun pins s σ H Q l I q => BoolOp_one (h.run pins s σ H Q l I q)⟩
theorem pen_and {ta tb : TE} (ha : PEn n X a ta) (hb : PEn n X (.BoolOp .And (b :: more) pos) tb) : PEn n X (.BoolOp .And (a :: b :: more) pos) (tAndV ta tb) := by
  constructor
  intro pins s σ H Q l I h
  refine BoolOp_and (thk l (ha.run pins s σ H _ l I h) ?_)
  rintro v s1 l1 ⟨x, H1, I1, r1, c, rfl, q⟩
  cases r1
  refine wpAny_truthy_bool ?_
  cases c
  · exact ⟨.bl false, H1, I1, rfl, q⟩
  · exact hb.run pins s1 σ H1 Q l1 I1 q
end
/-- what is known behind a statement is said, n tokens out -/
theorem pssn_cut {n : Nat} {X : Cx} {st : Stmt} {sts : List Stmt} {t u : TS} (h1 : PSn n X st t) (h2 : PSsn n X sts u) : PSsn n X (st :: sts) (C8.tCut t u) := by
  constructor
  intro pins s σ H D l I h
  obtain ⟨Mid, q1, q2⟩ := h
  refine wpAny_execs_cons (thk l (h1.run pins s σ H { D with nx := Mid } l I q1) ?_)
  rintro f s1 l1 q
  cases f with
  | next =>
    obtain ⟨ρ, G, J, m⟩ := q
    exact h2.run pins s1 ρ G D l1 J (q2 ρ G m)
  | ret v => exact q
  | brk => exact q
  | cont => exact q
end Pd

set_option maxHeartbeats 4000000
namespace Pd
open PySem PySem.Spec PyProof.Rows L2
/-! ### name = [..], n tokens out, the name a local -/
set_option maxHeartbeats 4000000 in
theorem psn_setLc {n i : Nat} {y : Str} {py spos : Pos} {X : Cx} {elt tg iter : Expr} {ifs : List Expr} {scope : Scope} {own : List (Str × Nat)} {pos : Pos} {wi : TI} {g : TG} {tt : TT} {te : TE} (hc : X.calm = true) (hN : X.N.Nodup) (hy : X.N[i]? = some y) (hyl : X.env.scope.names.lookup y = some .local)
    (hsw : swapsWith (.ListComp elt [⟨tg, iter, ifs, 0⟩] scope pos) (some (.Name y py)) spos.line X.env = pure true) (hi : PI X tg iter wi) (ok : BlkOk X.N X.env.scope scope own)
    (hg : ∀ (s : Shared) (H : Hp) (C : Addr) (cl : List (Str × Addr)) (fp : List Addr), PG (X.blk s H scope (compEnvC scope cl C X.env) fp) tg g)
    (ht : ∀ (s : Shared) (H : Hp) (C : Addr) (cl : List (Str × Addr)) (fp : List Addr), PTs (X.blk s H scope (compEnvC scope cl C X.env) fp) ifs tt)
    (he : ∀ (s : Shared) (H : Hp) (C : Addr) (cl : List (Str × Addr)) (fp : List Addr), PEn n (X.blk s H scope (compEnvC scope cl C X.env) fp) elt te) (hs : ∀ x, foldedSetIterable iter X.env x = pure x := by intro _; rfl) :
    PSn n X (.Assign [.Name y py] (.ListComp elt [⟨tg, iter, ifs, 0⟩] scope pos) spos) (tAsg (tLc wi g tt te (own.map (·.2))) (gName i)) := by
  constructor
  intro pins s σ H DD l0 I h
  rw [exec_Assign_Name_used _ _ _ _ hsw]
  refine wpAny_bind (wpAny_standAt (wpAny_bind ?_))
  show wpAny _ X.A (do let _ ← comprehension (.ListComp elt [⟨tg, iter, ifs, 0⟩] scope pos) scope X.env (firstIterPos [⟨tg, iter, ifs, 0⟩] pos) (newList []) false (eval iter X.env) (some (assign (.Name y py) X.env))) _ _ s
  have h : tLc wi g tt te (own.map (·.2)) σ H (fun x H1 => gName i x σ H1 DD.nx) := h
  refine wpAny_bind (thn (Q := fun _ s' => SP X pins DD .next s') ?_ fun _ s' hq => wpAny_pure (wpAny_pure hq))
  have hf : ∀ y ∈ scope.names, y.2 = .free → ∃ c, X.env.cells.lookup y.1 = some c := by
    intro y hy e
    rcases ok.free y hy e with k | k
    · exact I.ok.has _ (.inl k)
    · exact I.ok.has _ (.inr k)
  refine wpAny_comprehension_free (use := some (assign (.Name y py) X.env)) rfl hs (closure_ok hf) ok.kind (fun y hy e => by rw [ok.uniq y hy, e]) (thk l0 (hi.run pins s σ H _ I h) ?_)
  intro xv s1 l1 hx
  refine thk l1 hx ?_
  rintro itv s2 l2 ⟨it, fp, tn, J, H2, rfl, I2, T, st2, f2, q⟩
  refine wpAny_newObj_type (newEnv_comp ?_) (by show 0 ≤ sizeLine; decide)
  generalize hD : s2.heap.objs.size = D
  have dn : H2 D = none := I2.hok.fresh (Nat.le_of_eq hD)
  obtain ⟨W, ⟨m0, w0⟩, turn⟩ := q D dn
  generalize hs3 : ({ s2 with heap := s2.heap.push { cls := .type "list", data := .seq ([] : List Value).toArray } } : Shared) = s3
  have t3 : s3.toks = s2.toks := by rw [← hs3]
  have h3 : s3.heap = s2.heap.push { cls := .type "list", data := .seq ([] : List Value).toArray } := by rw [← hs3]
  have I3 : Inv X pins σ (upd H2 D (.lst [])) s3 := by
    rw [← hs3]
    refine I2.laid (t' := s2.toks) (fun b o e => Heap.get?_push_of_some _ e) (Nat.le_of_eq hD) ⟨Nat.zero_le _, [], 0, .nil, ?_⟩
    rw [← hD]
    exact Heap.get?_push_size _ rfl
  have sz : ∀ b ∈ fp, b < s2.heap.objs.size := by
    intro b hb
    obtain ⟨o, e, _⟩ := T.obj _ _ st2 b hb
    exact Heap.lt_size e
  have f3 : ∀ b ∈ fp, FpOk X pins (upd H2 D (.lst [])) b ∧ b < s3.heap.objs.size := by
    intro b hb
    have z := sz b hb
    refine ⟨⟨?_, (f2 b hb).2⟩, by rw [h3, Heap.size_push]; exact Nat.lt_succ_of_lt z⟩
    rw [upd_ne (by rw [← hD]; exact Nat.ne_of_lt z)]
    exact (f2 b hb).1
  have st3 : tn 0 s3.heap := T.keep _ _ _ st2 fun b _ o e => by rw [h3]; exact Heap.get?_push_of_some _ e
  have I4 := block_start I3 ok hN f3
  have pg := hg s3 (upd H2 D (.lst [])) s3.heap.objs.size (cellsFrom (s3.heap.objs.size + 1) scope.names (cloFrom X.env.cells scope.names [])) fp
  have pt := ht s3 (upd H2 D (.lst [])) s3.heap.objs.size (cellsFrom (s3.heap.objs.size + 1) scope.names (cloFrom X.env.cells scope.names [])) fp
  have pe := he s3 (upd H2 D (.lst [])) s3.heap.objs.size (cellsFrom (s3.heap.objs.size + 1) scope.names (cloFrom X.env.cells scope.names [])) fp
  have nfp : ∀ b ∈ fp, (upd H2 D (.lst [])) b = none := fun b hb => (f3 b hb).1.1
  show codeAny _ _ (.compStart (.ListComp elt [⟨tg, iter, ifs, 0⟩] scope pos) 0 (.ref it) (.ref D) (compEnvC scope (cellsFrom (s3.heap.objs.size + 1) scope.names (cloFrom X.env.cells scope.names [])) s3.heap.objs.size X.env))
    (compPost (model X.prog X.w) X.A X.xe (some (assign (.Name y py) X.env)) (fun _ s' => SP X pins DD .next s') (.ref D) s3.heap.objs.size) { s3 with heap := pushCells (s3.heap.push { cls := .type "dict", data := .dict #[] }) scope.names }
  generalize hce : compEnvC scope (cellsFrom (s3.heap.objs.size + 1) scope.names (cloFrom X.env.cells scope.names [])) s3.heap.objs.size X.env = ce at I4 pg pt pe ⊢
  have cL : ce.locals = s3.heap.objs.size := by subst hce; rfl
  generalize hH3 : upd H2 D (.lst []) = H3 at I3 I4 pg pt pe w0 nfp f3
  generalize hs4 : ({ s3 with heap := pushCells (s3.heap.push { cls := .type "dict", data := .dict #[] }) scope.names } : Shared) = s4 at I4 ⊢
  have l4 : n ≤ s4.toks := by rw [← hs4]; show n ≤ s3.toks; rw [t3]; exact l2
  have st4 : tn 0 s4.heap := T.keep _ _ _ st3 fun b _ o e => by rw [← hs4]; exact pushCells_keeps _ _ _ _ (Heap.get?_push_of_some _ e)
  have stat : ∀ {σ' : L2.St} {H' : Hp} {s' : Shared}, Inv (X.blk s3 H3 scope ce fp) [] σ' H' s' → (∀ b ∈ fp, H' b = none) → ∀ b ∈ fp, FpOk (X.blk s3 H3 scope ce fp) [] H' b := fun {σ' H' s'} I' hn b hb =>
    ⟨hn b hb, (I'.ok.exf b hb).1, I'.ok.exfs b hb, .inl hb, fun x c e => (I'.ok.exf b hb).2 x c e, fun p hp => absurd (show p ∈ ([] : List (Addr × Obj)) ++ [] from hp) (by simp)⟩
  have loop : codeAny (model X.prog X.w) X.A (.compLoop (.ListComp elt [⟨tg, iter, ifs, 0⟩] scope pos) 0 (.ref it) (.ref D) ce) (compPost (model X.prog X.w) X.A X.xe (some (assign (.Name y py) X.env)) (fun _ s' => SP X pins DD .next s') (.ref D) s3.heap.objs.size) s4 := by
    refine compLoop_any (fun m s' => n ≤ s'.toks ∧ ∃ i H', Inv (X.blk s3 H3 scope ce fp) [] (wipe σ (own.map (·.2))) H' s' ∧ tn i s'.heap ∧ (∀ b ∈ fp, H' b = none) ∧ W i m H') ?_ m0 ⟨l4, 0, H3, I4, st4, nfp, w0⟩
    rintro m s5 ⟨l5, i, H5, I5, st5, n5, w5⟩
    rcases turn i m H5 w5 with ⟨stop, qq⟩ | ⟨go, Nx, hNx, step⟩
    · refine thnF (T.done (X.blk s3 H3 scope ce fp) rfl rfl rfl hc i [] s5 _ H5 (fun _ _ => False) I5 (stat I5 n5) st5 stop) ?_
      rintro r s6 ⟨rfl, I6⟩
      have I7 : Inv X pins σ H5 s6 := I3.call' (ch := fp) I6.os I6.base I6.hok I6.bare fun b hb => ⟨(f3 b hb).1.2.2.2.1, (f3 b hb).1.2.1, (f3 b hb).1.2.2.2.2.1, (f3 b hb).1.2.2.2.2.2⟩
      have nC : H5 s3.heap.objs.size = none := by
        have z : H5 ce.locals = none := I6.free
        rw [cL] at z
        exact z
      obtain ⟨mm, hn, _⟩ := I6.loc
      have hn : s6.heap.Ns ce.locals mm := hn
      rw [cL] at hn
      show wpAny _ _ (assign (.Name y py) X.env (.ref D)) _ _ _
      refine wpAny_assign_Name (store_ok2 (v := V.ref D) I7 hN hy (.inl hyl) rfl (fun s2' I2' ⟨a, sb, ha⟩ => ?_) (.inr hyl))
      obtain ⟨g0, g1, g2, g3, g4, g5⟩ := I3.fpOk (H' := H5) (Nat.le_refl _) nC
      have haC : s3.heap.objs.size ≠ a := by
        rcases ha with z | z
        · rw [z]; exact g1
        · exact fun e => g4 y a z e.symm
      refine ⟨mm, hn.sameBut sb haC, fun h3 sb3 => ?_⟩
      exact ⟨_, H5, I2'.turned (t' := s2'.toks) (fun b o hb e => (sb3.2 b hb).trans e) g0 g1 g3 g4 g5, qq⟩
    · refine thnF (tkE l5 (T.item (X.blk s3 H3 scope ce fp) rfl rfl rfl hc i [] s5 _ H5 (fun _ _ => False) I5 (stat I5 n5) st5 go)) ?_
      rintro r s6 ⟨l6, u, rfl, h6⟩
      refine thnF (tkE l6 h6) ?_
      rintro _ s7 ⟨l7, x, H7, I7, r7, y7, st7, n7⟩
      have I7' := I7.pinned (stat I7 n7) (T.obj _ _ st7)
      refine thnF (tkE l7 (pg.run _ s7 _ H7 x u _ I7' r7 (step x H7 y7))) ?_
      rintro _ s8 ⟨l8, σ8, H8, I8, hw8, q8⟩
      refine thnF (tkE l8 (pt.run _ s8 σ8 H8 _ I8 q8)) ?_
      rintro b s9 ⟨l9, H9, I9, q9⟩
      have fin : ∀ {s' : Shared} {H' : Hp}, n ≤ s'.toks → Inv (X.blk s3 H3 scope ce fp) ([] ++ pinsAt fp s7.heap) σ8 H' s' → Nx H' →
          ∃ m', m' < m ∧ n ≤ s'.toks ∧ ∃ i H', Inv (X.blk s3 H3 scope ce fp) [] (wipe σ (own.map (·.2))) H' s' ∧ tn i s'.heap ∧ (∀ b ∈ fp, H' b = none) ∧ W i m' H' := by
        intro s' H' ls I' nx
        obtain ⟨m', hm, w'⟩ := hNx H' nx
        have pin' : ∀ b ∈ fp, ∀ o, s7.heap.get? b = some o → s'.heap.get? b = some o ∧ H' b = none := fun b hb o e =>
          let z := I'.pin (b, o) (List.mem_append_right _ (List.mem_append_right _ (mem_pinsAt hb e)))
          ⟨z.1, z.2.1⟩
        have hl : (wipe σ (own.map (·.2))).length = σ8.length := by rw [← hw8, wipe_length]
        refine ⟨m', hm, ls, i + 1, H', (I'.unpinned (pins := [])).weak hl (fun j v e => ?_), T.keep _ _ _ st7 fun b hb o e => (pin' b hb o e).1, fun b hb => ?_, w'⟩
        · rw [← hw8] at e
          exact (wipe_some e).1
        · obtain ⟨o, e, _⟩ := T.obj _ _ st7 b hb
          exact (pin' b hb o e).2
      cases b with
      | false =>
        simp only [Bool.false_eq_true, if_false] at q9 ⊢
        exact fin l9 I9 q9
      | true =>
        simp only [if_true] at q9 ⊢
        refine thnF (tkE l9 (pe.run _ s9 σ8 H9 _ l9 I9 q9)) ?_
        rintro z s10 ⟨l10, yv, H10, I10, r10, acc, hD10, hz10, nx⟩
        refine thnF (tkE l10 (app_ok (X := X.blk s3 H3 scope ce fp) (Q := fun _ s' => Inv (X.blk s3 H3 scope ce fp) ([] ++ pinsAt fp s7.heap) σ8 (upd H10 D (.lst (acc ++ [yv]))) s') I10 hD10 hz10 r10 fun s11 I11 => I11)) ?_
        rintro _ s11 ⟨l11, I11⟩
        exact fin l11 I11 nx
  exact codeAny_compStart_list loop (T.self X.A 0 _ _ _ st4 loop)
end Pd

set_option maxHeartbeats 4000000
namespace Pd
open PySem PySem.Spec PyProof.Rows L2
/-! ### what is known of tokens grows: b, never more than are out -/
structure EndsB where
  nx : Nat → L2.St → Hp → Prop
  rt : Nat → VK
  bk : Nat → L2.St → Hp → Prop := fun _ _ _ => False
  ct : Nat → L2.St → Hp → Prop := fun _ _ _ => False
def EndsB.to (D : EndsB) (b : Nat) : Ends := { nx := D.nx b, rt := D.rt b, bk := D.bk b, ct := D.ct b }
abbrev TSB := EndsB → Nat → L2.St → Hp → Prop
abbrev TEB := Nat → L2.St → Hp → (Nat → VK) → Prop
abbrev TAB := Nat → L2.St → Hp → (Nat → List V → Hp → Prop) → Prop
structure PEB (X : Cx) (e : Expr) (t : TEB) : Prop where
  run : ∀ (pins : List (Addr × Obj)) (s : Shared) (σ : L2.St) (H : Hp) (Q : Nat → VK) (b : Nat), b ≤ s.toks → Inv X pins σ H s → t b σ H Q → wpAny (model X.prog X.w) X.A (eval e X.env) (fun u s' => ∃ b', b' ≤ s'.toks ∧ EP X pins σ (Q b') u s') X.xe s
structure PAB (X : Cx) (es : List Expr) (t : TAB) : Prop where
  run : ∀ (pos : Pos) (pins : List (Addr × Obj)) (s : Shared) (σ : L2.St) (H : Hp) (Q : Nat → List V → Hp → Prop) (b : Nat), b ≤ s.toks → Inv X pins σ H s → t b σ H Q → wpAny (model X.prog X.w) X.A (spliced (backTo pos (starEach es X.env))) (fun us s' => ∃ b', b' ≤ s'.toks ∧ AP X pins σ (Q b') us s') X.xe s
structure PSB (X : Cx) (st : Stmt) (t : TSB) : Prop where
  run : ∀ (pins : List (Addr × Obj)) (s : Shared) (σ : L2.St) (H : Hp) (D : EndsB) (b : Nat), b ≤ s.toks → Inv X pins σ H s → t D b σ H → wpAny (model X.prog X.w) X.A (exec st X.env) (fun f s' => ∃ b', b' ≤ s'.toks ∧ SP X pins (D.to b') f s') X.xe s
structure PSsB (X : Cx) (sts : List Stmt) (t : TSB) : Prop where
  run : ∀ (pins : List (Addr × Obj)) (s : Shared) (σ : L2.St) (H : Hp) (D : EndsB) (b : Nat), b ≤ s.toks → Inv X pins σ H s → t D b σ H → wpAny (model X.prog X.w) X.A (execs sts X.env) (fun f s' => ∃ b', b' ≤ s'.toks ∧ SP X pins (D.to b') f s') X.xe s
def bE (t : Nat → TE) : TEB := fun b σ H Q => t b σ H (Q b)
def bA (t : Nat → TA) : TAB := fun b σ H Q => t b σ H (Q b)
def bS (t : Nat → TS) : TSB := fun D b σ H => t b (D.to b) σ H
section
variable {X : Cx} {e a c : Expr} {es : List Expr} {st : Stmt} {rest sts : List Stmt} {pos p : Pos}
theorem peb {t : Nat → TE} (h : ∀ n, PEn n X e (t n)) : PEB X e (bE t) :=
  ⟨fun pins s σ H Q b l I q => thk l ((h b).run pins s σ H (Q b) l I q) fun _ _ l' z => ⟨b, l', z⟩⟩
theorem peb0 {t : TE} (h : PE X e t) : PEB X e (bE fun _ => t) := peb fun _ => pen h
theorem pab {t : Nat → TA} (h : ∀ n, PAn n X es (t n)) : PAB X es (bA t) :=
  ⟨fun pos pins s σ H Q b l I q => thk l ((h b).run pos pins s σ H (Q b) l I q) fun _ _ l' z => ⟨b, l', z⟩⟩
theorem psb {t : Nat → TS} (h : ∀ n, PSn n X st (t n)) : PSB X st (bS t) :=
  ⟨fun pins s σ H D b l I q => thk l ((h b).run pins s σ H (D.to b) l I q) fun _ _ l' z => ⟨b, l', z⟩⟩
theorem psb0 {t : TS} (h : PS X st t) : PSB X st (bS fun _ => t) := psb fun _ => psn h
theorem pssb {t : Nat → TS} (h : ∀ n, PSsn n X sts (t n)) : PSsB X sts (bS t) :=
  ⟨fun pins s σ H D b l I q => thk l ((h b).run pins s σ H (D.to b) l I q) fun _ _ l' z => ⟨b, l', z⟩⟩
theorem pssb0 {t : TS} (h : PSs X sts t) : PSsB X sts (bS fun _ => t) := pssb fun _ => pssn h
def tSeqB (t u : TSB) : TSB := fun D b σ H => t { D with nx := u D } b σ H
theorem pssb_cons {t u : TSB} (h1 : PSB X st t) (h2 : PSsB X rest u) : PSsB X (st :: rest) (tSeqB t u) := by
  constructor
  intro pins s σ H D b l I h
  refine wpAny_execs_cons (thn (h1.run pins s σ H { D with nx := u D } b l I h) ?_)
  rintro f s1 ⟨b1, l1, q⟩
  cases f with
  | next =>
    obtain ⟨σ', H', J, q'⟩ := q
    exact h2.run pins s1 σ' H' D b1 l1 J q'
  | ret w => exact ⟨b1, l1, q⟩
  | brk => exact ⟨b1, l1, q⟩
  | cont => exact ⟨b1, l1, q⟩
theorem pssb_one {t : TSB} (h : PSB X st t) : PSsB X [st] t := by
  constructor
  intro pins s σ H D b l I h1
  refine wpAny_execs_cons (thn (h.run pins s σ H D b l I h1) ?_)
  rintro f s1 ⟨b1, l1, q⟩
  cases f with
  | next => exact wpAny_execs_nil ⟨b1, l1, q⟩
  | ret w => exact ⟨b1, l1, q⟩
  | brk => exact ⟨b1, l1, q⟩
  | cont => exact ⟨b1, l1, q⟩
def tNextB : TSB := fun D b σ H => D.nx b σ H
theorem pssb_nil : PSsB X [] tNextB := ⟨fun pins s σ H D b l I h => wpAny_execs_nil ⟨b, l, σ, H, I, h⟩⟩
/-- what is known behind a statement is said -/
def tCutB (t u : TSB) : TSB := fun D b σ H => ∃ Mid : Nat → L2.St → Hp → Prop, t { D with nx := Mid } b σ H ∧ ∀ b σ' H', Mid b σ' H' → u D b σ' H'
theorem pssb_cut {t u : TSB} (h1 : PSB X st t) (h2 : PSsB X rest u) : PSsB X (st :: rest) (tCutB t u) := by
  constructor
  intro pins s σ H D b l I h
  obtain ⟨Mid, q1, q2⟩ := h
  refine wpAny_execs_cons (thn (h1.run pins s σ H { D with nx := Mid } b l I q1) ?_)
  rintro f s1 ⟨b1, l1, q⟩
  cases f with
  | next =>
    obtain ⟨ρ, G, J, m⟩ := q
    exact h2.run pins s1 ρ G D b1 l1 J (q2 b1 ρ G m)
  | ret w => exact ⟨b1, l1, q⟩
  | brk => exact ⟨b1, l1, q⟩
  | cont => exact ⟨b1, l1, q⟩
def tIfB (c : Nat → TT) (t u : TSB) : TSB := fun D b σ H => c b σ H fun d H1 => if d = true then t D b σ H1 else u D b σ H1
theorem psb_if {tc : Nat → TT} {t u : TSB} {s1 s2 : List Stmt} (hc : ∀ n, PTn n X c (tc n)) (ha : PSsB X s1 t) (hb : PSsB X s2 u) : PSB X (.If c s1 s2 pos) (tIfB tc t u) := by
  constructor
  intro pins s σ H D b l I h
  refine wpAny_If (thk l ((hc b).run pins s σ H _ l I h) fun d s' l' ⟨H1, I1, q1⟩ => ?_)
  cases d with
  | true => exact ha.run pins s' σ H1 D b l' I1 q1
  | false => exact hb.run pins s' σ H1 D b l' I1 q1
def tRetB (t : TEB) : TSB := fun D b σ H => t b σ H D.rt
theorem psb_ret {t : TEB} (he : PEB X e t) : PSB X (.Return (some e) pos) (tRetB t) := by
  constructor
  intro pins s σ H D b l I h
  exact wpAny_Return_some (thn (he.run pins s σ H _ b l I h) fun w s1 ⟨b1, l1, x, H1, I1, r1, q1⟩ => ⟨b1, l1, x, σ, H1, I1, r1, q1⟩)
def tAsgB (t : TEB) (g : TG) : TSB := fun D b σ H => t b σ H fun b' x H1 => g x σ H1 (D.nx b')
theorem psb_asg {tg : Expr} {t : TEB} {g : TG} (he : PEB X e t) (hg : PG X tg g) (hs : swapsWithSole [tg] e pos.line X.env = pure false := by rfl) (hw : swappedStores [tg] e X.env = pure none := by rfl)
    (h1 : (assignEach [tg] X.env).map (·.2) = [assign tg X.env] := by rfl) : PSB X (.Assign [tg] e pos) (tAsgB t g) := by
  constructor
  intro pins s σ H D b l I h
  refine wpAny_Assign_stores (thn (he.run pins s σ H _ b l I h) fun v s1 ⟨b1, l1, x, H1, I1, r1, q1⟩ => ?_) hs hw
  rw [h1]
  exact thk l1 (hg.run pins s1 σ H1 x v _ I1 r1 q1) fun _ s2 l2 q => ⟨b1, l2, q⟩
theorem psb_set {i : Nat} {x : Str} {t : TEB} {pos' : Pos} (hN : X.N.Nodup) (hi : X.N[i]? = some x) (hx : Loc X.env.scope x) (he : PEB X e t) (hs : swapsWith e (some (.Name x pos')) pos.line X.env = pure false := by rfl) (hf : X.fn x = true ∨ X.env.scope.names.lookup x = some .local := by first | exact .inl rfl | exact .inr rfl | assumption) :
    PSB X (.Assign [.Name x pos'] e pos) (tAsgB t (gName i)) := by
  constructor
  intro pins s σ H D b l I h
  refine wpAny_Assign_Name (thn (he.run pins s σ H _ b l I h) fun v s1 ⟨b1, l1, y, H1, I1, r1, q1⟩ => ?_) hs
  exact thk l1 (store_ok (Q := fun _ s2 => SP X pins (D.to b1) .next s2) I1 hN hi hx r1 (fun s2 I2 => ⟨_, H1, I2, q1⟩) hf) fun _ s2 l2 q => ⟨b1, l2, q⟩
/-! #### a call of a def that tells a bound -/
def tCallU (sp : SpU) (ta : TA) : TEB := fun b σ H Q => ta σ H fun vs H1 => sp vs H1 fun b' v H2 => Q (max b b') v H2
theorem peb_callU {k : Nat} {x : Str} {f : Addr} {sp : SpU} {ta : TA} (F : FnU X.prog X.w X.K X.mg X.base k f sp) (hr : Room k X.A) (hg : Gl X x) (hm : X.mg x = some (.ref f)) (hk : PySem.W.keepIn X.K (.ref f) = true) (ha : PA X (e :: es) ta)
    (hdb : (x == ("__debug__" : Str)) = false := by decide) (he : starEach (e :: es) X.env = (false, eval e X.env) :: starEach es X.env := by rfl) (hpl : (backTo pos (starEach es X.env)).any (·.1) = false := by rfl) :
    PEB X (.Call (.Name x p) (e :: es) [] pos) (tCallU sp ta) := by
  constructor
  intro pins s σ H Q b l I h
  refine wpAny_Call_Name_kw (ld_glob I hg hm ?_ hdb)
  refine PySem.W.callWith_K (h₀ := X.base) I.ok.mod.kin hk (thk l (ha.run pos pins s σ H _ I h) ?_) he hpl
  rintro us s1 l1 ⟨vs, H1, I1, r, q⟩
  refine ⟨I1.kIn, wpAny_call (codeAny_mono (codeAny_toks_of l1 (F X.A X.stack s1 H1 us vs _ (fun _ _ _ => False) hr I1.env0 r q)) fun r s' hq => ?_)⟩
  obtain ⟨l2, b1, lb, hq⟩ := hq
  cases r with
  | error e => exact pass0 pins σ H1 s1 e s' I1 hq
  | ok fl =>
    cases fl with
    | ret w => exact ⟨max b b1, Nat.max_le.mpr ⟨l2, lb⟩, I1.after hq⟩
    | next => exact False.elim hq
    | brk => exact False.elim hq
    | cont => exact False.elim hq
end
end Pd

set_option maxHeartbeats 4000000
namespace Pd
open PySem PySem.Spec PyProof.Rows L2
/-! ### for, a comprehension, what is made of parts: what is known of tokens grows within -/
def tForB (wi : TI) (g : TG) (tb : TSB) : TSB := fun D b σ H => wi σ H fun J H1 => ∃ W : Nat → Nat → Nat → L2.St → Hp → Prop, (∃ m, W 0 m b σ H1) ∧ ∀ i m b σ H, W i m b σ H →
  (J.stop i H ∧ D.nx b σ H) ∨ (J.go i H ∧ ∃ N : Nat → L2.St → Hp → Prop, (∀ b' σ' H', N b' σ' H' → ∃ m', m' < m ∧ W (i + 1) m' b' σ' H') ∧ ∀ x H', J.yld i H x H' → g x σ H' fun σ2 H2 => tb { D with nx := N, ct := N, bk := D.nx } b σ2 H2)
theorem psb_for {X : Cx} {tg over : Expr} {sts : List Stmt} {wi : TI} {g : TG} {tb : TSB} {pos : Pos} (own : PassesOwn (model X.prog X.w) X.A X.env X.xe) (calm : X.calm = true) (hi : PI X tg over wi) (hg : PG X tg g) (hb : PSsB X sts tb)
    (fs : ∀ x, foldedSetIterable over X.env x = pure x := by intro _; rfl) : PSB X (.For tg over sts [] pos) (tForB wi g tb) := by
  constructor
  intro pins s σ H D b0 l0 I h
  refine wpAny_For (thk l0 (hi.run pins s σ H _ I h) fun v t1 m1 k1 => thk m1 k1 fun iv t2 m2 k2 => ?_) fs
  obtain ⟨it, fp, tn, J, H2, rfl, I2, T, at2, fr2, W, ⟨q0, w0⟩, turn⟩ := k2
  have same : ∀ {G : Hp}, (∀ b ∈ fp, G b = none) → ∀ b ∈ fp, FpOk X pins G b := fun z b hb => ⟨z b hb, (fr2 b hb).2⟩
  refine codeAny_forLoop_any (fun c u => ∃ b, b ≤ u.toks ∧ ∃ i ρ G, Inv X pins ρ G u ∧ tn i u.heap ∧ (∀ b ∈ fp, G b = none) ∧ W i c b ρ G) ?_ q0 ⟨b0, m2, 0, σ, H2, I2, at2, fun b hb => (fr2 b hb).1, w0⟩
  rintro c u3 ⟨b, l3, i, ρ, G3, J3, at3, fr3, w3⟩
  rcases turn i c b ρ G3 w3 with ⟨stop, fin⟩ | ⟨go, N, hN, step⟩
  · refine wpAny_passesOwn own (thk l3 (T.done X rfl rfl rfl calm i pins u3 ρ G3 X.xe J3 (same fr3) at3 stop) ?_)
    rintro r u4 l4 ⟨rfl, J4⟩
    exact wpAny_execs_nil ⟨b, l4, ρ, G3, J4, fin⟩
  refine wpAny_passesOwn own (thk l3 (T.item X rfl rfl rfl calm i pins u3 ρ G3 X.xe J3 (same fr3) at3 go) ?_)
  rintro r u4 l4 ⟨z, rfl, k4⟩
  refine wpAny_passesOwn own (thk l4 k4 ?_)
  rintro _ u5 l5 ⟨x, G5, J5, r5, y5, at5, fr5⟩
  have J6 := J5.pinned (same fr5) (T.obj _ _ at5)
  refine wpAny_passesOwn own (thk l5 (hg.run _ u5 ρ G5 x z _ J6 r5 (step x G5 y5)) ?_)
  rintro _ u6 l6 ⟨ρ6, G6, J7, q6⟩
  refine wpAny_passesOwn own (thn (hb.run _ u6 ρ6 G6 _ b l6 J7 q6) ?_)
  rintro f u7 ⟨b7, l7, q7⟩
  have more : ∀ {ρ7 : L2.St} {G7 : Hp}, Inv X (pins ++ pinsAt fp u5.heap) ρ7 G7 u7 → N b7 ρ7 G7 → ∃ m, m < c ∧ ∃ b, b ≤ u7.toks ∧ ∃ i ρ' G', Inv X pins ρ' G' u7 ∧ tn i u7.heap ∧ (∀ b ∈ fp, G' b = none) ∧ W i m b ρ' G' := by
    intro ρ7 G7 K7 n7
    obtain ⟨m', lt, w7⟩ := hN b7 ρ7 G7 n7
    have pin : ∀ b ∈ fp, ∀ o, u5.heap.get? b = some o → _ := fun b hb o e => K7.pin (b, o) (List.mem_append_right _ (List.mem_append_right _ (mem_pinsAt hb e)))
    refine ⟨m', lt, b7, l7, i + 1, ρ7, G7, K7.unpinned, T.keep _ _ _ at5 fun b hb o e => (pin b hb o e).1, fun b hb => ?_, w7⟩
    obtain ⟨o, e, _⟩ := T.obj _ _ at5 b hb
    exact (pin b hb o e).2.1
  cases f with
  | next => obtain ⟨ρ7, G7, K7, n7⟩ := q7; exact more K7 n7
  | cont => obtain ⟨ρ7, G7, K7, n7⟩ := q7; exact more K7 n7
  | brk => obtain ⟨ρ7, G7, K7, e7⟩ := q7; exact ⟨b7, l7, ρ7, G7, K7.unpinned, e7⟩
  | ret v => obtain ⟨x7, ρ7, G7, K7, r7, e7⟩ := q7; exact ⟨b7, l7, x7, ρ7, G7, K7.unpinned, r7, e7⟩
theorem forB_it {J : It} {n : Nat} {G : Hp → Prop} {Y : Nat → Hp → V → Hp → Prop} (w : Walk J n G Y) {g : TG} {tb : TSB} {D : EndsB} {b : Nat} {σ : L2.St} {H : Hp} (Pv : Nat → Nat → L2.St → Hp → Prop) (h0 : Pv 0 b σ H) (hG : ∀ i b σ H, i ≤ n → Pv i b σ H → G H)
    (hs : ∀ i x b σ H H', i < n → Pv i b σ H → Y i H x H' → g x σ H' fun σ2 H2 => tb { D with nx := Pv (i + 1), ct := Pv (i + 1), bk := D.nx } b σ2 H2) (hd : ∀ b σ H, Pv n b σ H → D.nx b σ H) :
    ∃ W : Nat → Nat → Nat → L2.St → Hp → Prop, (∃ m, W 0 m b σ H) ∧ ∀ i m b σ H, W i m b σ H →
      (J.stop i H ∧ D.nx b σ H) ∨ (J.go i H ∧ ∃ N : Nat → L2.St → Hp → Prop, (∀ b' σ' H', N b' σ' H' → ∃ m', m' < m ∧ W (i + 1) m' b' σ' H') ∧ ∀ x H', J.yld i H x H' → g x σ H' fun σ2 H2 => tb { D with nx := N, ct := N, bk := D.nx } b σ2 H2) := by
  refine ⟨fun i m b σ H => m = n - i ∧ i ≤ n ∧ Pv i b σ H, ⟨n, by simp, Nat.zero_le _, h0⟩, ?_⟩
  rintro i m b σ H ⟨rfl, hi, p⟩
  have q := hG i b σ H hi p
  by_cases hlt : i < n
  · exact .inr ⟨w.goes i H hlt q, Pv (i + 1), fun b' σ' H' p' => ⟨n - (i + 1), by omega, rfl, hlt, p'⟩, fun x H' y => hs i x b σ H H' hlt p (w.yields i H x H' hlt q y)⟩
  · have e : i = n := by omega
    subst e
    exact .inl ⟨w.stops H q, hd b σ H p⟩
def tLcB (wi : TI) (g : TG) (tt : TT) (te : TEB) (vs : List Nat) : TEB := fun b σ H Q => wi σ H fun J H1 => ∀ D, H1 D = none → ∃ W : Nat → Nat → Nat → Hp → Prop, (∃ m, W 0 m b (upd H1 D (.lst []))) ∧ ∀ i m b H, W i m b H →
  (J.stop i H ∧ Q b (.ref D) H) ∨ (J.go i H ∧ ∃ Nx : Nat → Hp → Prop, (∀ b' H', Nx b' H' → ∃ m', m' < m ∧ W (i + 1) m' b' H') ∧ ∀ x H', J.yld i H x H' → g x (wipe σ vs) H' fun σ2 H2 => wipe σ2 vs = wipe σ vs ∧ tt σ2 H2 fun d H3 =>
    if d = true then te b σ2 H3 fun b' y H4 => ∃ acc, H4 D = some (.lst acc) ∧ acc.length < sizeLine ∧ Nx b' (upd H4 D (.lst (acc ++ [y]))) else Nx b H3)
theorem lcB_it {J : It} {n : Nat} {G : Hp → Prop} {Y : Nat → Hp → V → Hp → Prop} (w : Walk J n G Y) {g : TG} {tt : TT} {te : TEB} {vs : List Nat} {σ : L2.St} {H1 : Hp} {D : Addr} {b : Nat} {Qd : Nat → Hp → Prop} (Pv : Nat → Nat → Hp → Prop) (h0 : Pv 0 b (upd H1 D (.lst []))) (hG : ∀ i b H, i ≤ n → Pv i b H → G H)
    (hs : ∀ i x b H H', i < n → Pv i b H → Y i H x H' → g x (wipe σ vs) H' fun σ2 H2 => wipe σ2 vs = wipe σ vs ∧ tt σ2 H2 fun d H3 =>
      if d = true then te b σ2 H3 fun b' y H4 => ∃ acc, H4 D = some (.lst acc) ∧ acc.length < sizeLine ∧ Pv (i + 1) b' (upd H4 D (.lst (acc ++ [y]))) else Pv (i + 1) b H3) (hd : ∀ b H, Pv n b H → Qd b H) :
    ∃ W : Nat → Nat → Nat → Hp → Prop, (∃ m, W 0 m b (upd H1 D (.lst []))) ∧ ∀ i m b H, W i m b H →
      (J.stop i H ∧ Qd b H) ∨ (J.go i H ∧ ∃ Nx : Nat → Hp → Prop, (∀ b' H', Nx b' H' → ∃ m', m' < m ∧ W (i + 1) m' b' H') ∧ ∀ x H', J.yld i H x H' → g x (wipe σ vs) H' fun σ2 H2 => wipe σ2 vs = wipe σ vs ∧ tt σ2 H2 fun d H3 =>
        if d = true then te b σ2 H3 fun b' y H4 => ∃ acc, H4 D = some (.lst acc) ∧ acc.length < sizeLine ∧ Nx b' (upd H4 D (.lst (acc ++ [y]))) else Nx b H3) := by
  refine ⟨fun i m b H => m = n - i ∧ i ≤ n ∧ Pv i b H, ⟨n, by simp, Nat.zero_le _, h0⟩, ?_⟩
  rintro i m b H ⟨rfl, hi, p⟩
  have q := hG i b H hi p
  by_cases hlt : i < n
  · refine .inr ⟨w.goes i H hlt q, Pv (i + 1), fun b' H' p' => ⟨n - (i + 1), by omega, rfl, hlt, p'⟩, fun x H' y => hs i x b H H' hlt p (w.yields i H x H' hlt q y)⟩
  · have e : i = n := by omega
    subst e
    exact .inl ⟨w.stops H q, hd b H p⟩
set_option maxHeartbeats 4000000 in
theorem peb_lc {X : Cx} {elt tg iter : Expr} {ifs : List Expr} {scope : Scope} {own : List (Str × Nat)} {pos : Pos} {wi : TI} {g : TG} {tt : TT} {te : TEB} (hc : X.calm = true) (hN : X.N.Nodup) (hi : PI X tg iter wi) (ok : BlkOk X.N X.env.scope scope own)
    (hg : ∀ (s : Shared) (H : Hp) (C : Addr) (cl : List (Str × Addr)) (fp : List Addr), PG (X.blk s H scope (compEnvC scope cl C X.env) fp) tg g)
    (ht : ∀ (s : Shared) (H : Hp) (C : Addr) (cl : List (Str × Addr)) (fp : List Addr), PTs (X.blk s H scope (compEnvC scope cl C X.env) fp) ifs tt)
    (he : ∀ (s : Shared) (H : Hp) (C : Addr) (cl : List (Str × Addr)) (fp : List Addr), PEB (X.blk s H scope (compEnvC scope cl C X.env) fp) elt te) (hs : ∀ x, foldedSetIterable iter X.env x = pure x := by intro _; rfl) :
    PEB X (.ListComp elt [⟨tg, iter, ifs, 0⟩] scope pos) (tLcB wi g tt te (own.map (·.2))) := by
  constructor
  intro pins s σ H Q b0 l0 I h
  rw [eval_ListComp]
  have hf : ∀ y ∈ scope.names, y.2 = .free → ∃ c, X.env.cells.lookup y.1 = some c := by
    intro y hy e
    rcases ok.free y hy e with k | k
    · exact I.ok.has _ (.inl k)
    · exact I.ok.has _ (.inr k)
  refine wpAny_comprehension_free (use := none) rfl hs (closure_ok hf) ok.kind (fun y hy e => by rw [ok.uniq y hy, e]) (thk l0 (hi.run pins s σ H _ I h) ?_)
  intro xv s1 l1 hx
  refine thk l1 hx ?_
  rintro itv s2 l2 ⟨it, fp, tn, J, H2, rfl, I2, T, st2, f2, q⟩
  refine wpAny_newObj_type (newEnv_comp ?_) (by show 0 ≤ sizeLine; decide)
  generalize hD : s2.heap.objs.size = D
  have dn : H2 D = none := I2.hok.fresh (Nat.le_of_eq hD)
  obtain ⟨W, ⟨m0, w0⟩, turn⟩ := q D dn
  generalize hs3 : ({ s2 with heap := s2.heap.push { cls := .type "list", data := .seq ([] : List Value).toArray } } : Shared) = s3
  have t3 : s3.toks = s2.toks := by rw [← hs3]
  have h3 : s3.heap = s2.heap.push { cls := .type "list", data := .seq ([] : List Value).toArray } := by rw [← hs3]
  have I3 : Inv X pins σ (upd H2 D (.lst [])) s3 := by
    rw [← hs3]
    refine I2.laid (t' := s2.toks) (fun b o e => Heap.get?_push_of_some _ e) (Nat.le_of_eq hD) ⟨Nat.zero_le _, [], 0, .nil, ?_⟩
    rw [← hD]
    exact Heap.get?_push_size _ rfl
  have sz : ∀ b ∈ fp, b < s2.heap.objs.size := by
    intro b hb
    obtain ⟨o, e, _⟩ := T.obj _ _ st2 b hb
    exact Heap.lt_size e
  have f3 : ∀ b ∈ fp, FpOk X pins (upd H2 D (.lst [])) b ∧ b < s3.heap.objs.size := by
    intro b hb
    have z := sz b hb
    refine ⟨⟨?_, (f2 b hb).2⟩, by rw [h3, Heap.size_push]; exact Nat.lt_succ_of_lt z⟩
    rw [upd_ne (by rw [← hD]; exact Nat.ne_of_lt z)]
    exact (f2 b hb).1
  have st3 : tn 0 s3.heap := T.keep _ _ _ st2 fun b _ o e => by rw [h3]; exact Heap.get?_push_of_some _ e
  have I4 := block_start I3 ok hN f3
  have pg := hg s3 (upd H2 D (.lst [])) s3.heap.objs.size (cellsFrom (s3.heap.objs.size + 1) scope.names (cloFrom X.env.cells scope.names [])) fp
  have pt := ht s3 (upd H2 D (.lst [])) s3.heap.objs.size (cellsFrom (s3.heap.objs.size + 1) scope.names (cloFrom X.env.cells scope.names [])) fp
  have pe := he s3 (upd H2 D (.lst [])) s3.heap.objs.size (cellsFrom (s3.heap.objs.size + 1) scope.names (cloFrom X.env.cells scope.names [])) fp
  have nfp : ∀ b ∈ fp, (upd H2 D (.lst [])) b = none := fun b hb => (f3 b hb).1.1
  show codeAny _ _ (.compStart (.ListComp elt [⟨tg, iter, ifs, 0⟩] scope pos) 0 (.ref it) (.ref D) (compEnvC scope (cellsFrom (s3.heap.objs.size + 1) scope.names (cloFrom X.env.cells scope.names [])) s3.heap.objs.size X.env))
    (compPost (model X.prog X.w) X.A X.xe none (fun u s' => ∃ b', b' ≤ s'.toks ∧ EP X pins σ (Q b') u s') (.ref D) s3.heap.objs.size) { s3 with heap := pushCells (s3.heap.push { cls := .type "dict", data := .dict #[] }) scope.names }
  generalize hce : compEnvC scope (cellsFrom (s3.heap.objs.size + 1) scope.names (cloFrom X.env.cells scope.names [])) s3.heap.objs.size X.env = ce at I4 pg pt pe ⊢
  have cL : ce.locals = s3.heap.objs.size := by subst hce; rfl
  generalize hH3 : upd H2 D (.lst []) = H3 at I3 I4 pg pt pe w0 nfp f3
  generalize hs4 : ({ s3 with heap := pushCells (s3.heap.push { cls := .type "dict", data := .dict #[] }) scope.names } : Shared) = s4 at I4 ⊢
  have l4 : b0 ≤ s4.toks := by rw [← hs4]; show b0 ≤ s3.toks; rw [t3]; exact l2
  have st4 : tn 0 s4.heap := T.keep _ _ _ st3 fun b _ o e => by rw [← hs4]; exact pushCells_keeps _ _ _ _ (Heap.get?_push_of_some _ e)
  have stat : ∀ {σ' : L2.St} {H' : Hp} {s' : Shared}, Inv (X.blk s3 H3 scope ce fp) [] σ' H' s' → (∀ b ∈ fp, H' b = none) → ∀ b ∈ fp, FpOk (X.blk s3 H3 scope ce fp) [] H' b := fun {σ' H' s'} I' hn b hb =>
    ⟨hn b hb, (I'.ok.exf b hb).1, I'.ok.exfs b hb, .inl hb, fun x c e => (I'.ok.exf b hb).2 x c e, fun p hp => absurd (show p ∈ ([] : List (Addr × Obj)) ++ [] from hp) (by simp)⟩
  have loop : codeAny (model X.prog X.w) X.A (.compLoop (.ListComp elt [⟨tg, iter, ifs, 0⟩] scope pos) 0 (.ref it) (.ref D) ce) (compPost (model X.prog X.w) X.A X.xe none (fun u s' => ∃ b', b' ≤ s'.toks ∧ EP X pins σ (Q b') u s') (.ref D) s3.heap.objs.size) s4 := by
    refine compLoop_any (fun m s' => ∃ b, b ≤ s'.toks ∧ ∃ i H', Inv (X.blk s3 H3 scope ce fp) [] (wipe σ (own.map (·.2))) H' s' ∧ tn i s'.heap ∧ (∀ b ∈ fp, H' b = none) ∧ W i m b H') ?_ m0 ⟨b0, l4, 0, H3, I4, st4, nfp, w0⟩
    rintro m s5 ⟨b5, l5, i, H5, I5, st5, n5, w5⟩
    rcases turn i m b5 H5 w5 with ⟨stop, qq⟩ | ⟨go, Nx, hNx, step⟩
    · refine thnF (tkE l5 (T.done (X.blk s3 H3 scope ce fp) rfl rfl rfl hc i [] s5 _ H5 (fun _ _ => False) I5 (stat I5 n5) st5 stop)) ?_
      rintro r s6 ⟨l6, rfl, I6⟩
      have I7 : Inv X pins σ H5 s6 := I3.call' (ch := fp) I6.os I6.base I6.hok I6.bare fun b hb => ⟨(f3 b hb).1.2.2.2.1, (f3 b hb).1.2.1, (f3 b hb).1.2.2.2.2.1, (f3 b hb).1.2.2.2.2.2⟩
      have nC : H5 s3.heap.objs.size = none := by
        have z : H5 ce.locals = none := I6.free
        rw [cL] at z
        exact z
      obtain ⟨mm, hn, _⟩ := I6.loc
      have hn : s6.heap.Ns ce.locals mm := hn
      rw [cL] at hn
      obtain ⟨g0, g1, g2, g3, g4, g5⟩ := I3.fpOk (H' := H5) (Nat.le_refl _) nC
      exact ⟨mm, hn, fun g sb => ⟨b5, l6, .ref D, H5, I7.turned (t' := s6.toks) (fun b o hb e => (sb.2 b hb).trans e) g0 g1 g3 g4 g5, rfl, qq⟩⟩
    · refine thnF (tkE l5 (T.item (X.blk s3 H3 scope ce fp) rfl rfl rfl hc i [] s5 _ H5 (fun _ _ => False) I5 (stat I5 n5) st5 go)) ?_
      rintro r s6 ⟨l6, u, rfl, h6⟩
      refine thnF (tkE l6 h6) ?_
      rintro _ s7 ⟨l7, x, H7, I7, r7, y7, st7, n7⟩
      have I7' := I7.pinned (stat I7 n7) (T.obj _ _ st7)
      refine thnF (tkE l7 (pg.run _ s7 _ H7 x u _ I7' r7 (step x H7 y7))) ?_
      rintro _ s8 ⟨l8, σ8, H8, I8, hw8, q8⟩
      refine thnF (tkE l8 (pt.run _ s8 σ8 H8 _ I8 q8)) ?_
      rintro b s9 ⟨l9, H9, I9, q9⟩
      have fin : ∀ {b' : Nat} {s' : Shared} {H' : Hp}, b' ≤ s'.toks → Inv (X.blk s3 H3 scope ce fp) ([] ++ pinsAt fp s7.heap) σ8 H' s' → Nx b' H' →
          ∃ m', m' < m ∧ ∃ b, b ≤ s'.toks ∧ ∃ i H', Inv (X.blk s3 H3 scope ce fp) [] (wipe σ (own.map (·.2))) H' s' ∧ tn i s'.heap ∧ (∀ b ∈ fp, H' b = none) ∧ W i m' b H' := by
        intro b' s' H' ls I' nx
        obtain ⟨m', hm, w'⟩ := hNx b' H' nx
        have pin' : ∀ b ∈ fp, ∀ o, s7.heap.get? b = some o → s'.heap.get? b = some o ∧ H' b = none := fun b hb o e =>
          let z := I'.pin (b, o) (List.mem_append_right _ (List.mem_append_right _ (mem_pinsAt hb e)))
          ⟨z.1, z.2.1⟩
        have hl : (wipe σ (own.map (·.2))).length = σ8.length := by rw [← hw8, wipe_length]
        refine ⟨m', hm, b', ls, i + 1, H', (I'.unpinned (pins := [])).weak hl (fun j v e => ?_), T.keep _ _ _ st7 fun b hb o e => (pin' b hb o e).1, fun b hb => ?_, w'⟩
        · rw [← hw8] at e
          exact (wipe_some e).1
        · obtain ⟨o, e, _⟩ := T.obj _ _ st7 b hb
          exact (pin' b hb o e).2
      cases b with
      | false =>
        simp only [Bool.false_eq_true, if_false] at q9 ⊢
        exact fin l9 I9 q9
      | true =>
        simp only [if_true] at q9 ⊢
        refine thnF (pe.run _ s9 σ8 H9 _ b5 l9 I9 q9) ?_
        rintro z s10 ⟨b10, l10, yv, H10, I10, r10, acc, hD10, hz10, nx⟩
        refine thnF (tkE l10 (app_ok (X := X.blk s3 H3 scope ce fp) (Q := fun _ s' => Inv (X.blk s3 H3 scope ce fp) ([] ++ pinsAt fp s7.heap) σ8 (upd H10 D (.lst (acc ++ [yv]))) s') I10 hD10 hz10 r10 fun s11 I11 => I11)) ?_
        rintro _ s11 ⟨l11, I11⟩
        exact fin l11 I11 nx
  exact codeAny_compStart_list loop (T.self X.A 0 _ _ _ st4 loop)
/-! #### parts -/
section
variable {X : Cx} {e a b c : Expr} {es : List Expr} {pos p : Pos}
def tConsB (t : TEB) (u : TAB) : TAB := fun n σ H Q => t n σ H fun n1 x H1 => u n1 σ H1 fun n2 xs H2 => Q n2 (x :: xs) H2
theorem pab_cons {t : TEB} {u : TAB} (ha : PEB X e t) (hr : PAB X es u) (hs : starEach (e :: es) X.env = (false, eval e X.env) :: starEach es X.env := by rfl) : PAB X (e :: es) (tConsB t u) := by
  constructor
  intro pos pins s σ H Q n l I h
  rw [hs]
  show wpAny _ _ (spliced ((false, eval e X.env) :: backTo pos (starEach es X.env))) _ _ s
  refine Calls.spliced_cons (thn (ha.run pins s σ H _ n l I h) fun w s1 ⟨n1, l1, x, H1, I1, r1, q1⟩ => ?_)
  exact thn (hr.run pos pins s1 σ H1 _ n1 l1 I1 q1) fun us s2 ⟨n2, l2, xs, H2, I2, r2, q2⟩ => ⟨n2, l2, x :: xs, H2, I2, .cons r1 r2, q2⟩
theorem pab_nil : PAB X [] (bA fun _ => tNil) := pab fun _ => pan pa_nil
def tTupB (t : TAB) : TEB := fun n σ H Q => t n σ H fun n1 xs H1 => xs.length ≤ sizeLine ∧ ∀ p, H1 p = none → Q n1 (.ref p) (upd H1 p (.tup xs))
theorem peb_tup {t : TAB} {x1} (h : PAB X es t) : PEB X (.Tuple es x1 pos) (tTupB t) := by
  refine ⟨fun pins s σ H Q n l I hq => ?_⟩
  refine wpAny_Tuple_spliced (thn (h.run pos pins s σ H _ n l I hq) fun us s1 ⟨n1, l1, xs, H1, I1, r, z, q⟩ => ⟨by rw [← r.length]; exact z, ?_⟩)
  have hf : H1 s1.heap.objs.size = none := I1.hok.fresh (Nat.le_refl _)
  refine ⟨n1, l1, .ref s1.heap.objs.size, upd H1 s1.heap.objs.size (.tup xs), I1.laid (t' := s1.toks) (fun b u e => Heap.get?_push_of_some _ e) (Nat.le_refl _) ?_, rfl, q _ hf⟩
  exact ⟨z, us, r, ⟨_, Heap.get?_push_size _ rfl, rfl, _, rfl⟩⟩
def tOpB (r : R2) (t u : TEB) : TEB := fun n σ H Q => t n σ H fun n1 x H1 => u n1 σ H1 fun n2 y H2 => r x y H2 (Q n2)
theorem peb_op {op : Operator} {r : R2} {t u : TEB} (ho : OpR X (binaryOp op) r) (ha : PEB X a t) (hb : PEB X b u) : PEB X (.BinOp a op b pos) (tOpB r t u) := by
  constructor
  intro pins s σ H Q n l I h
  refine wpAny_BinOp (thn (ha.run pins s σ H _ n l I h) fun w s1 ⟨n1, l1, x, H1, I1, r1, q1⟩ => ?_)
  refine thn (hb.run pins s1 σ H1 _ n1 l1 I1 q1) fun w2 s2 ⟨n2, l2, y, H2, I2, r2, q2⟩ => thk l2 (ho pins s2 σ H2 x y w w2 (Q n2) I2 r1 r2 q2) fun _ _ l3 z => ⟨n2, l3, z⟩
def tCBB (r : List V → Hp → VK → Prop) (t : TAB) : TEB := fun n σ H Q => t n σ H fun n1 vs H1 => r vs H1 (Q n1)
theorem peb_callTy {T : String} {x : Str} {r : List V → Hp → VK → Prop} {t : TAB} (hc : CallR X (.type T) r) (hg : Gl X x) (hm : X.mg x = none) (hv : bootBuiltins x = some (.type T)) (ha : PAB X (e :: es) t) (hn : x ≠ "__name__" := by decide) (hdb : (x == ("__debug__" : Str)) = false := by decide)
    (he : starEach (e :: es) X.env = (false, eval e X.env) :: starEach es X.env := by rfl) (hpl : (backTo pos (starEach es X.env)).any (·.1) = false := by rfl) : PEB X (.Call (.Name x p) (e :: es) [] pos) (tCBB r t) := by
  refine ⟨fun pins s σ H Q n l I h => ?_⟩
  refine wpAny_Call_Name_kw (ld_blt I hg hm hv ?_ hn hdb)
  exact PyProof.Rows.callWith_type1 (thn (ha.run pos pins s σ H _ n l I h) fun us s1 ⟨n1, l1, vs, H1, I1, r1, q1⟩ => thk l1 (hc pins s1 σ H1 vs us (Q n1) I1 r1 q1) fun _ _ l2 z => ⟨n1, l2, z⟩) he hpl
/-- two names at once -/
def tParB (i j : Nat) (ta : TAB) : TSB := fun D n σ H => ta n σ H fun n1 vs H1 => ∃ v w, vs = [v, w] ∧ D.nx n1 ((σ.set i (some v)).set j (some w)) H1
theorem psb_par {i j : Nat} {kx ky : Str} {e1 e2 : Expr} {tl : TAB} {b1 b2 b3 b4 b5 : Pos} {k1 k2 : Nat} (calm : X.calm = true) (nd : X.N.Nodup) (hi : X.N[i]? = some kx) (hj : X.N[j]? = some ky) (ne : i ≠ j)
    (vx : X.env.scope.names.lookup kx = some .local) (vy : X.env.scope.names.lookup ky = some .local) (ha : PAB X [e1, e2] tl)
    (sw : swappedStores [.Tuple [.Name kx b1, .Name ky b2] k1 b3] (.Tuple [e1, e2] k2 b4) X.env = pure (some [kx, ky]))
    (sole : swapsWithSole [.Tuple [.Name kx b1, .Name ky b2] k1 b3] (.Tuple [e1, e2] k2 b4) b5.line X.env = pure false := by rfl) :
    PSB X (.Assign [.Tuple [.Name kx b1, .Name ky b2] k1 b3] (.Tuple [e1, e2] k2 b4) b5) (tParB i j tl) := by
  constructor
  intro pins s σ H D n l0 I h
  rw [exec_Assign_arm]
  refine wpAny_bind (wpAny_standAt ?_)
  rw [sole]
  refine wpAny_bind (wpAny_pure ?_)
  rw [if_neg (by decide)]
  refine wpAny_bind (Tuple_ (thn (ha.run _ pins s σ H _ n l0 I h) ?_))
  rintro us t1 ⟨n1, l1, vs, H1, J1, rs, v, z, rfl, fin⟩
  have two : ∃ c d, us = [c, d] ∧ RelV v c ∧ RelV z d := by
    rcases rs with _ | ⟨rv, rs⟩
    rcases rs with _ | ⟨rz, rs⟩
    cases rs
    exact ⟨_, _, rfl, rv, rz⟩
  obtain ⟨c, d, rfl, rv, rz⟩ := two
  refine wpAny_newObj_type ?_ (by show 2 ≤ sizeLine; decide)
  have J2 : Inv X pins σ H1 { t1 with heap := t1.heap.push { cls := .type "tuple", data := .seq [c, d].toArray } } := J1.kept (t' := t1.toks) fun b o q => Heap.get?_push_of_some _ q
  rw [sw]
  refine wpAny_bind (wpAny_pure ?_)
  show wpAny (model X.prog X.w) X.A (do rule "assign.swapped-stores"; let items ← unpackItems (.ref t1.heap.objs.size) 2 none; assignInOrder [fun v => bindName X.env ky v, fun v => bindName X.env kx v] items.reverse; pure Flow.next) _ _ _
  refine wpAny_bind (wpAny_rule (wpAny_bind (unpackItems_tuple (items := #[c, d]) (I.ok.hd calm) (IsTup.new t1.heap _) fun g hg => ?_)))
  have J3 := J2.kept (h' := g) (t' := t1.toks) fun b o q => hg b o (Nat.ne_of_lt (Heap.lt_size q)) q
  show wpAny _ _ (assignInOrder [fun v => bindName X.env ky v, fun v => bindName X.env kx v] [d, c] >>= fun _ => pure Flow.next) _ _ _
  refine wpAny_bind (assignInOrder_cons (wpAny_bindName ?_))
  refine thk (s := { t1 with heap := g }) l1 (store_ok (Q := fun _ s2 => Inv X pins (σ.set j (some z)) H1 s2) J3 nd hj (.inl vy) rz (fun t2 J4 => J4) (.inr vy)) fun _ t2 l2 J4 => ?_
  refine assignInOrder_cons (wpAny_bindName ?_)
  refine thk l2 (store_ok (Q := fun _ s2 => Inv X pins ((σ.set j (some z)).set i (some v)) H1 s2) J4 nd hi (.inl vx) rv (fun t2 J4 => J4) (.inr vx)) fun _ t3 l3 J5 => assignInOrder_nil (wpAny_pure ?_)
  rw [List.set_comm _ _ (Ne.symm ne)] at J5
  exact ⟨n1, l3, _, H1, J5, fin⟩
end
/-! #### defs -/
theorem fnU_ofB {P : Program} {w : World} {K : PySem.W.Frag} {mg : Str → Option Value} {base : Heap} {x qual : Str} {st : Stmt} {f : Addr} {fd : FuncData} {N ps : List Str} {k : Nat} {sp : SpU}
    (F : Fun K x qual st f fd) (S : FnScope N ps (defScope st))
    (hb : ∀ (kV doc pm : Value) (an : Option Addr) (cdv ct : Value) (us : List Value), us.length = ps.length → bindArgs (PySem.W.fnOf x qual (defArgs st) (defBody st) (defScope st) .none kV doc pm an cdv ct) ⟨us, []⟩ = pure (ps.zip us))
    (len : ∀ vs H Q, sp vs H Q → vs.length = ps.length)
    (hbody : ∀ (cdv : Value) (A : Around) (outer : List Env) (s : Shared) (H : Hp) (vs : List V) (Q : Nat → VK) (E : XK), Room k (A.deeper (envOfC qual (defScope st) s.heap.objs.size f cdv)) → sp vs H Q →
      ∃ t, PSsB (cxOf CX0 P w K mg base N qual (defScope st) f cdv A outer s H E) (defBody st) t ∧ t { nx := fun b _ H' => Q b .non H', rt := Q } 0 (start N vs) H) : FnU P w K mg base (k + 1) f sp := by
  obtain ⟨oc, od, kV, doc, pm, an, cdv, ct, osl, rfl, lk, hcd⟩ := F.ex
  intro A outer s H us vs Q E hr e0 r hsp
  have hl : us.length = ps.length := r.length.symm.trans (len _ _ _ hsp)
  have KX : K.In s.heap := e0.mod.kin.keeps fun b o e => (e0.bs b o e).1
  have lim : s.heap.NoLimit := e0.mod.nolimit.keeps fun b o e => (e0.bs b o e).1
  have hkind : ∀ y ∈ ps.zip us, (defScope st).names.lookup y.1 = some .local ∨ ((defScope st).names.lookup y.1 = some .cell ∧ ((cellsFrom (s.heap.objs.size + 1) (defScope st).names []).lookup y.1).isSome = true) := fun y hy => by
    rcases S.par y.1 (List.of_mem_zip hy).1 with q | q
    · exact .inl q
    · exact .inr ⟨q, PySem.W.cellsFrom_some _ _ _ (.inl q)⟩
  refine codeAny_call_function hr.depth (KX _ _ lk) rfl S.co S.gen rfl (PySem.W.codeRec_of KX hcd) (BindsTo.of_eq (hb kV doc pm an cdv ct us hl) _ _ _ _ ?_)
  refine wpAny_mono (wpAny_newFunctionEnv_cells S.kind hkind fun env he s1 x => (⟨he, x⟩ : env = _ ∧ InCallC s _ _ _ _ s1)) ?_ fun _ _ z => z
  rintro env s1 ⟨rfl, x⟩
  refine ⟨lim.keeps x.toInCall.keep, codeAny_func ?_⟩
  obtain ⟨t, he, hq⟩ := hbody cdv A outer s H vs Q E (hr.deeper _) hsp
  have I : Inv (cxOf CX0 P w K mg base N qual (defScope st) f cdv A outer s H E) [] (start N vs) H s1 := inv_start S hr.hd e0 (len _ _ _ hsp) r x
  refine wpAny_mono (he.run [] s1 _ H _ 0 (Nat.zero_le _) I hq) ?_ ?_
  · rintro fl s' ⟨b, lb, hs⟩
    refine ⟨b, lb, ?_⟩
    cases fl with
    | ret u =>
      obtain ⟨v, σ', H', J, rv, q⟩ := hs
      exact (show CE outer P w H s (Q b) u s' from ⟨v, H', J.os, J.bare, J.base, J.hok, rv, q⟩)
    | next =>
      obtain ⟨σ', H', J, q⟩ := hs
      exact (show CE outer P w H s (Q b) .none s' from ⟨.non, H', J.os, J.bare, J.base, J.hok, rfl, q⟩)
    | brk =>
      obtain ⟨_, _, _, q⟩ := hs
      exact False.elim q
    | cont =>
      obtain ⟨_, _, _, q⟩ := hs
      exact False.elim q
  · intro e s' h
    exact wpAny_mono h (fun _ _ h => ⟨0, Nat.zero_le _, h⟩) fun _ _ h => ⟨0, Nat.zero_le _, h⟩
theorem PSsB.nox {X : Cx} {sts : List Stmt} {t : TSB} (h : PSsB X.nox sts t) : PSsB X sts t :=
  ⟨fun pins s σ H D b l I q => wpAny_mono (h.run pins s σ H D b l (I.wish _) q) (fun _ _ ⟨b', l', z⟩ => ⟨b', l', z.unwish⟩) fun _ _ z => z.elim⟩
end Pd

set_option maxHeartbeats 4000000
namespace Pd
open PySem PySem.Spec PyProof.Rows L2
/-! ### while, n tokens out -/
theorem psn_while {n : Nat} {X : Cx} {c : Expr} {body : List Stmt} {tc : TT} {tb : TS} {pos : Pos} (hp : PassesOwn (model X.prog X.w) X.A X.env X.xe) (hc : PTn n X c tc) (hb : PSsn n X body tb) : PSn n X (.While c body [] pos) (tWhile tc tb) := by
  refine ⟨fun pins s σ H D l0 I h => ?_⟩
  obtain ⟨W, ⟨m0, w0⟩, turn⟩ := h
  refine wpAny_While (codeAny_whileLoop (fun k s' => n ≤ s'.toks ∧ ∃ σ' H', Inv X pins σ' H' s' ∧ W k σ' H') ?_ m0 ⟨l0, σ, H, I, w0⟩)
  rintro k s1 ⟨l1, σ1, H1, I1, w1⟩
  refine wpAny_passesOwn hp (thk l1 (hc.run pins s1 σ1 H1 _ l1 I1 (turn k σ1 H1 w1)) fun b s2 l2 ⟨H2, I2, q2⟩ => ?_)
  cases b with
  | true =>
    obtain ⟨N, hN, q2⟩ := q2
    rw [if_pos rfl]
    refine wpAny_passesOwn hp (thk l2 (hb.run pins s2 σ1 H2 _ l2 I2 q2) fun f s3 l3 q3 => ?_)
    cases f with
    | next =>
      obtain ⟨σ3, H3, I3, n3⟩ := q3
      obtain ⟨m', hm, w3⟩ := hN σ3 H3 n3
      exact ⟨m', hm, l3, σ3, H3, I3, w3⟩
    | cont =>
      obtain ⟨σ3, H3, I3, n3⟩ := q3
      obtain ⟨m', hm, w3⟩ := hN σ3 H3 n3
      exact ⟨m', hm, l3, σ3, H3, I3, w3⟩
    | brk => exact q3
    | ret v => exact q3
  | false =>
    rw [if_neg Bool.false_ne_true]
    exact wpAny_execs_nil ⟨σ1, H2, I2, q2⟩
end Pd

set_option maxHeartbeats 2000000
namespace Pd
open PySem PySem.Spec PyProof.Rows L2
/-! ### a method of a value of its own kind, its arguments with n tokens out -/
section
variable {X : Cx} {n : Nat} {o e : Expr} {es : List Expr} {to : TE} {t : TA} {T id : String} {name : Str} {r : V → List V → Hp → VK → Prop} {apos cpos : Pos}
theorem pen_bm (pa : PlainAttrs T) (slot : Slot T name id) (hty : typeOf (.builtin id) = pure (.type "method_descriptor")) (hm : MtR X id r) (ho : PEn n X o to) (ha : PAn n X (e :: es) t)
    (hbase : attributeBase o name X.env (eval o X.env) = eval o X.env := by rfl)
    (hfew : ((backTo cpos (starEach (e :: es) X.env)).all (fun x => !x.1) && (backToKw cpos (keywordEach [] X.env)).all (fun x => x.1.isSome)
      && decide ((e :: es).length + ([] : List Keyword).length + (if ([] : List Keyword).isEmpty then 0 else 1) < 30)) = true := by rfl)
    (hline : (apos.endLine == cpos.line) = true := by rfl) (hs : starEach (e :: es) X.env = (false, eval e X.env) :: starEach es X.env := by rfl) (hplain : (backTo cpos (starEach es X.env)).any (·.1) = false := by rfl) :
    PEn n X (.Call (.Attribute o name apos) (e :: es) [] cpos) (tBM X.K T r to t) := by
  constructor
  intro pins s σ H Q l I h
  refine wpAny_Call_method_late hbase hfew hline rfl (thk l (ho.run pins s σ H _ l I h) ?_)
  rintro v s1 l1 ⟨x, H1, I1, r1, ty, q1⟩
  obtain ⟨h1, h2⟩ := tyV_is I1 r1 ty
  refine ⟨T, id, pa, slot, hty, h1, h2, ?_⟩
  have hA := ha.run cpos pins s1 σ H1 _ l1 I1 q1
  rw [hs] at hA ⊢
  refine Calls.callWith_builtin (by show (false || (backTo cpos (starEach es X.env)).any (·.1)) = false; rw [hplain] <;> rfl) (Calls.evalArgs_plain ?_)
  exact thn hA fun us s2 ⟨vs, H2, I2, r2, q2⟩ => hm pins s2 σ H2 x vs v us Q I2 r1 r2 q2
end
end Pd

namespace Pd
open PySem L2
def top (i : Nat) : Stmt := PySem.Challenge.pw_plaindoors_k14_whole_there_and_back.main.body.getD i (.Pass ⟨0, 0, 0, 0⟩)
abbrev sWall : Stmt := top 0
abbrev sIsCharacter : Stmt := top 4
abbrev sIsText : Stmt := top 5
abbrev sIsInteger : Stmt := top 9
abbrev sIsStep : Stmt := top 10
abbrev sIsChoice : Stmt := top 11
abbrev sMadeBySteps : Stmt := top 12
abbrev sMadeByStep : Stmt := top 13
abbrev sOnce : Stmt := top 14
abbrev sNostepInit : Stmt := inClass (top 18) 0
abbrev sNodeedInit : Stmt := inClass (top 19) 0
abbrev sNopartInit : Stmt := inClass (top 20) 0
abbrev sNolineInit : Stmt := inClass (top 21) 0
abbrev sDoorsInit : Stmt := inClass (top 24) 0
abbrev sDoorsEq : Stmt := inClass (top 24) 1
abbrev sDoorsPut : Stmt := inClass (top 24) 2
abbrev sDoorsFind : Stmt := inClass (top 24) 3
abbrev sDoorsStrike : Stmt := inClass (top 24) 4
abbrev sDoorsWish : Stmt := inClass (top 24) 5
abbrev sDoorsFolded : Stmt := inClass (top 24) 6
abbrev sAnswers : Stmt := top 25
abbrev sFoldingsOf : Stmt := top 26
abbrev sIsName : Stmt := top 27
abbrev sCheckDeeds : Stmt := top 28
abbrev sIsDeed : Stmt := top 29
abbrev sFoldingInit : Stmt := inClass (top 32) 0
abbrev sFoldingCall : Stmt := inClass (top 32) 1
abbrev sFoldingGetitem : Stmt := inClass (top 32) 2
abbrev sFoldingIter : Stmt := inClass (top 32) 3
abbrev sFoldingLen : Stmt := inClass (top 32) 4
abbrev sFoldingEq : Stmt := inClass (top 32) 5
abbrev sFoldingAdd : Stmt := inClass (top 32) 6
abbrev sFoldingContains : Stmt := inClass (top 32) 7
abbrev sFoldingSteps : Stmt := inClass (top 32) 8
abbrev sFoldingWithout : Stmt := inClass (top 32) 9
abbrev sFoldingText : Stmt := top 38
abbrev sReadFolding : Stmt := top 39
abbrev sDoorsText : Stmt := top 40
abbrev sReadDoors : Stmt := top 41
abbrev sPartOf : Stmt := top 42
abbrev sWordOf : Stmt := top 43
abbrev sStepOf : Stmt := top 44
abbrev sNumberOf : Stmt := top 45
abbrev sFoldingOf : Stmt := top 46
abbrev sLawWell : Stmt := top 48
abbrev sLawDraw : Stmt := top 49
abbrev sLawChars : Stmt := top 50
abbrev sLawPool : Stmt := top 51
abbrev sLawCharacter : Stmt := top 52
abbrev sLawStep : Stmt := top 53
abbrev sLawSteps : Stmt := top 54
abbrev sLawDoors : Stmt := top 55
abbrev sLawPart : Stmt := top 56
abbrev sLawFoldingText : Stmt := top 57
abbrev sLawDoorsText : Stmt := top 58
abbrev sLawSame : Stmt := top 59
abbrev sLawFold : Stmt := top 60
abbrev sLawText : Stmt := top 61
abbrev sLawRound : Stmt := top 62
abbrev sLawParts : Stmt := top 63
abbrev sLawAnswers : Stmt := top 64
abbrev sLawDoorsRound : Stmt := top 65
abbrev sLaw : Stmt := top 66
theorem scWall : FnScope ["k"] ["k"] (defScope sWall) := ⟨rfl, rfl, rfl, by decide +kernel, rfl, by decide +kernel, by decide +kernel⟩
theorem scIsCharacter : FnScope ["value"] ["value"] (defScope sIsCharacter) := ⟨rfl, rfl, rfl, by decide +kernel, rfl, by decide +kernel, by decide +kernel⟩
theorem scIsText : FnScope ["value", "character"] ["value"] (defScope sIsText) := ⟨rfl, rfl, rfl, by decide +kernel, rfl, by decide +kernel, by decide +kernel⟩
theorem scIsInteger : FnScope ["value"] ["value"] (defScope sIsInteger) := ⟨rfl, rfl, rfl, by decide +kernel, rfl, by decide +kernel, by decide +kernel⟩
theorem scIsStep : FnScope ["value", "name"] ["value"] (defScope sIsStep) := ⟨rfl, rfl, rfl, by decide +kernel, rfl, by decide +kernel, by decide +kernel⟩
theorem scIsChoice : FnScope ["value", "character"] ["value"] (defScope sIsChoice) := ⟨rfl, rfl, rfl, by decide +kernel, rfl, by decide +kernel, by decide +kernel⟩
theorem scMadeBySteps : FnScope ["steps", "text", "step"] ["steps", "text"] (defScope sMadeBySteps) := ⟨rfl, rfl, rfl, by decide +kernel, rfl, by decide +kernel, by decide +kernel⟩
theorem scMadeByStep : FnScope ["step", "text", "name", "character"] ["step", "text"] (defScope sMadeByStep) := ⟨rfl, rfl, rfl, by decide +kernel, rfl, by decide +kernel, by decide +kernel⟩
theorem scOnce : FnScope ["text", "single", "kept", "at"] ["text", "single"] (defScope sOnce) := ⟨rfl, rfl, rfl, by decide +kernel, rfl, by decide +kernel, by decide +kernel⟩
theorem scNostepInit : FnScope ["self", "index"] ["self", "index"] (defScope sNostepInit) := ⟨rfl, rfl, rfl, by decide +kernel, rfl, by decide +kernel, by decide +kernel⟩
theorem scNodeedInit : FnScope ["self", "index"] ["self", "index"] (defScope sNodeedInit) := ⟨rfl, rfl, rfl, by decide +kernel, rfl, by decide +kernel, by decide +kernel⟩
theorem scNopartInit : FnScope ["self", "part"] ["self", "part"] (defScope sNopartInit) := ⟨rfl, rfl, rfl, by decide +kernel, rfl, by decide +kernel, by decide +kernel⟩
theorem scNolineInit : FnScope ["self", "line"] ["self", "line"] (defScope sNolineInit) := ⟨rfl, rfl, rfl, by decide +kernel, rfl, by decide +kernel, by decide +kernel⟩
theorem scDoorsInit : FnScope ["self", "put", "find", "strike", "wish"] ["self", "put", "find", "strike", "wish"] (defScope sDoorsInit) := ⟨rfl, rfl, rfl, by decide +kernel, rfl, by decide +kernel, by decide +kernel⟩
theorem scDoorsEq : FnScope ["self", "other", "doors"] ["self", "other"] (defScope sDoorsEq) := ⟨rfl, rfl, rfl, by decide +kernel, rfl, by decide +kernel, by decide +kernel⟩
theorem scDoorsPut : FnScope ["self"] ["self"] (defScope sDoorsPut) := ⟨rfl, rfl, rfl, by decide +kernel, rfl, by decide +kernel, by decide +kernel⟩
theorem scDoorsFind : FnScope ["self"] ["self"] (defScope sDoorsFind) := ⟨rfl, rfl, rfl, by decide +kernel, rfl, by decide +kernel, by decide +kernel⟩
theorem scDoorsStrike : FnScope ["self"] ["self"] (defScope sDoorsStrike) := ⟨rfl, rfl, rfl, by decide +kernel, rfl, by decide +kernel, by decide +kernel⟩
theorem scDoorsWish : FnScope ["self"] ["self"] (defScope sDoorsWish) := ⟨rfl, rfl, rfl, by decide +kernel, rfl, by decide +kernel, by decide +kernel⟩
theorem scDoorsFolded : FnScope ["self", "names"] ["self", "names"] (defScope sDoorsFolded) := ⟨rfl, rfl, rfl, by decide +kernel, rfl, by decide +kernel, by decide +kernel⟩
theorem scAnswers : FnScope ["doors", "deeds", "foldings", "forms", "told", "name", "text", "folding", "form", "there"] ["doors", "deeds"] (defScope sAnswers) := ⟨rfl, rfl, rfl, by decide +kernel, rfl, by decide +kernel, by decide +kernel⟩
theorem scFoldingsOf : FnScope ["doors"] ["doors"] (defScope sFoldingsOf) := ⟨rfl, rfl, rfl, by decide +kernel, rfl, by decide +kernel, by decide +kernel⟩
theorem scIsName : FnScope ["value"] ["value"] (defScope sIsName) := ⟨rfl, rfl, rfl, by decide +kernel, rfl, by decide +kernel, by decide +kernel⟩
theorem scCheckDeeds : FnScope ["value", "at", "deed"] ["value"] (defScope sCheckDeeds) := ⟨rfl, rfl, rfl, by decide +kernel, rfl, by decide +kernel, by decide +kernel⟩
theorem scIsDeed : FnScope ["value"] ["value"] (defScope sIsDeed) := ⟨rfl, rfl, rfl, by decide +kernel, rfl, by decide +kernel, by decide +kernel⟩
theorem scFoldingInit : FnScope ["self", "steps", "at", "step"] ["self", "steps"] (defScope sFoldingInit) := ⟨rfl, rfl, rfl, by decide +kernel, rfl, by decide +kernel, by decide +kernel⟩
theorem scFoldingCall : FnScope ["self", "text"] ["self", "text"] (defScope sFoldingCall) := ⟨rfl, rfl, rfl, by decide +kernel, rfl, by decide +kernel, by decide +kernel⟩
theorem scFoldingGetitem : FnScope ["self", "at"] ["self", "at"] (defScope sFoldingGetitem) := ⟨rfl, rfl, rfl, by decide +kernel, rfl, by decide +kernel, by decide +kernel⟩
theorem scFoldingIter : FnScope ["self"] ["self"] (defScope sFoldingIter) := ⟨rfl, rfl, rfl, by decide +kernel, rfl, by decide +kernel, by decide +kernel⟩
theorem scFoldingLen : FnScope ["self"] ["self"] (defScope sFoldingLen) := ⟨rfl, rfl, rfl, by decide +kernel, rfl, by decide +kernel, by decide +kernel⟩
theorem scFoldingEq : FnScope ["self", "other"] ["self", "other"] (defScope sFoldingEq) := ⟨rfl, rfl, rfl, by decide +kernel, rfl, by decide +kernel, by decide +kernel⟩
theorem scFoldingAdd : FnScope ["self", "other"] ["self", "other"] (defScope sFoldingAdd) := ⟨rfl, rfl, rfl, by decide +kernel, rfl, by decide +kernel, by decide +kernel⟩
theorem scFoldingContains : FnScope ["self", "x"] ["self", "x"] (defScope sFoldingContains) := ⟨rfl, rfl, rfl, by decide +kernel, rfl, by decide +kernel, by decide +kernel⟩
theorem scFoldingSteps : FnScope ["self"] ["self"] (defScope sFoldingSteps) := ⟨rfl, rfl, rfl, by decide +kernel, rfl, by decide +kernel, by decide +kernel⟩
theorem scFoldingWithout : FnScope ["self", "index"] ["self", "index"] (defScope sFoldingWithout) := ⟨rfl, rfl, rfl, by decide +kernel, rfl, by decide +kernel, by decide +kernel⟩
theorem scFoldingText : FnScope ["folding", "step"] ["folding"] (defScope sFoldingText) := ⟨rfl, rfl, rfl, by decide +kernel, rfl, by decide +kernel, by decide +kernel⟩
theorem scReadFolding : FnScope ["text", "steps", "at", "part", "step"] ["text"] (defScope sReadFolding) := ⟨rfl, rfl, rfl, by decide +kernel, rfl, by decide +kernel, by decide +kernel⟩
theorem scDoorsText : FnScope ["doors", "foldings", "beginning", "folding"] ["doors"] (defScope sDoorsText) := ⟨rfl, rfl, rfl, by decide +kernel, rfl, by decide +kernel, by decide +kernel⟩
theorem scReadDoors : FnScope ["text", "foldings", "put", "find", "strike", "wish", "at", "line"] ["text"] (defScope sReadDoors) := ⟨rfl, rfl, rfl, by decide +kernel, rfl, by decide +kernel, by decide +kernel⟩
theorem scPartOf : FnScope ["step", "value"] ["step"] (defScope sPartOf) := ⟨rfl, rfl, rfl, by decide +kernel, rfl, by decide +kernel, by decide +kernel⟩
theorem scWordOf : FnScope ["value"] ["value"] (defScope sWordOf) := ⟨rfl, rfl, rfl, by decide +kernel, rfl, by decide +kernel, by decide +kernel⟩
theorem scStepOf : FnScope ["part", "words", "values", "word", "value"] ["part"] (defScope sStepOf) := ⟨rfl, rfl, rfl, by decide +kernel, rfl, by decide +kernel, by decide +kernel⟩
theorem scNumberOf : FnScope ["word"] ["word"] (defScope sNumberOf) := ⟨rfl, rfl, rfl, by decide +kernel, rfl, by decide +kernel, by decide +kernel⟩
theorem scFoldingOf : FnScope ["at", "line"] ["at", "line"] (defScope sFoldingOf) := ⟨rfl, rfl, rfl, by decide +kernel, rfl, by decide +kernel, by decide +kernel⟩
theorem scLawWell : FnScope ["script", "k", "cell", "deep"] ["script", "k"] (defScope sLawWell) := ⟨rfl, rfl, rfl, by decide +kernel, rfl, by decide +kernel, by decide +kernel⟩
theorem scLawDraw : FnScope ["well", "many", "found", "turn", "mixed"] ["well", "many"] (defScope sLawDraw) := ⟨rfl, rfl, rfl, by decide +kernel, rfl, by decide +kernel, by decide +kernel⟩
theorem scLawChars : FnScope [] [] (defScope sLawChars) := ⟨rfl, rfl, rfl, by decide +kernel, rfl, by decide +kernel, by decide +kernel⟩
theorem scLawPool : FnScope ["well", "chars", "letter", "more", "k"] ["well"] (defScope sLawPool) := ⟨rfl, rfl, rfl, by decide +kernel, rfl, by decide +kernel, by decide +kernel⟩
theorem scLawCharacter : FnScope ["well", "pool"] ["well", "pool"] (defScope sLawCharacter) := ⟨rfl, rfl, rfl, by decide +kernel, rfl, by decide +kernel, by decide +kernel⟩
theorem scLawStep : FnScope ["well", "pool", "way", "found", "turn", "one"] ["well", "pool"] (defScope sLawStep) := ⟨rfl, rfl, rfl, by decide +kernel, rfl, by decide +kernel, by decide +kernel⟩
theorem scLawSteps : FnScope ["well", "pool", "turn"] ["well", "pool"] (defScope sLawSteps) := ⟨rfl, rfl, rfl, by decide +kernel, rfl, by decide +kernel, by decide +kernel⟩
theorem scLawDoors : FnScope ["well", "pool", "base", "found", "turn", "way", "spot", "steps"] ["well", "pool"] (defScope sLawDoors) := ⟨rfl, rfl, rfl, by decide +kernel, rfl, by decide +kernel, by decide +kernel⟩
theorem scLawPart : FnScope ["step", "entry"] ["step"] (defScope sLawPart) := ⟨rfl, rfl, rfl, by decide +kernel, rfl, by decide +kernel, by decide +kernel⟩
theorem scLawFoldingText : FnScope ["steps", "step"] ["steps"] (defScope sLawFoldingText) := ⟨rfl, rfl, rfl, by decide +kernel, rfl, by decide +kernel, by decide +kernel⟩
theorem scLawDoorsText : FnScope ["four", "heads", "k"] ["four"] (defScope sLawDoorsText) := ⟨rfl, rfl, rfl, by decide +kernel, rfl, by decide +kernel, by decide +kernel⟩
theorem scLawSame : FnScope ["actual", "expected", "k"] ["actual", "expected"] (defScope sLawSame) := ⟨rfl, rfl, rfl, by decide +kernel, rfl, by decide +kernel, by decide +kernel⟩
theorem scLawFold : FnScope ["steps", "text", "step", "one"] ["steps", "text"] (defScope sLawFold) := ⟨rfl, rfl, rfl, by decide +kernel, rfl, by decide +kernel, by decide +kernel⟩
theorem scLawText : FnScope ["well", "pool", "used", "way", "text", "spot", "size", "turn"] ["well", "pool", "used"] (defScope sLawText) := ⟨rfl, rfl, rfl, by decide +kernel, rfl, by decide +kernel, by decide +kernel⟩
theorem scLawRound : FnScope ["steps", "texts", "work", "due", "back", "text"] ["steps", "texts"] (defScope sLawRound) := ⟨rfl, rfl, rfl, by decide +kernel, rfl, by decide +kernel, by decide +kernel⟩
theorem scLawParts : FnScope ["steps", "others", "told", "spot", "rest"] ["steps", "others"] (defScope sLawParts) := ⟨rfl, rfl, rfl, by decide +kernel, rfl, by decide +kernel, by decide +kernel⟩
theorem scLawAnswers : FnScope ["four", "deeds", "there", "found", "door", "text", "form", "known"] ["four", "deeds"] (defScope sLawAnswers) := ⟨rfl, rfl, rfl, by decide +kernel, rfl, by decide +kernel, by decide +kernel⟩
theorem scLawDoorsRound : FnScope ["four", "texts", "work", "due", "back", "told", "k", "deeds", "text"] ["four", "texts"] (defScope sLawDoorsRound) := ⟨rfl, rfl, rfl, by decide +kernel, rfl, by decide +kernel, by decide +kernel⟩
theorem scLaw : FnScope ["script", "k", "well", "pool", "four", "texts", "turn", "steps"] ["script"] (defScope sLaw) := ⟨rfl, rfl, rfl, by decide +kernel, rfl, by decide +kernel, by decide +kernel⟩
end Pd

set_option maxHeartbeats 4000000
namespace Pd
open PySem PySem.Spec PyProof.Rows L2 SX
/-! ### bundles -/
/-- a def that may be called by its name, all its arguments by position -/
structure Cl (P : Program) (w : World) (K : PySem.W.Frag) (mg : Str → Option Value) (base : Heap) (k : Nat) (x : Str) (sp : Sp) : Prop where
  ex : ∃ (f : Addr) (fd : FuncData) (ps : List Str), FnOk P w K mg base CX0 k f fd ps sp ∧ mg x = some (.ref f) ∧ PySem.W.keepIn K (.ref f) = true ∧ Binds K fd ps []
/-- .. that gives a new text -/
structure ClT (P : Program) (w : World) (K : PySem.W.Frag) (mg : Str → Option Value) (base : Heap) (k : Nat) (x : Str) (sp : Sp) : Prop where
  ex : ∃ (f : Addr), FnT P w K mg base CX0 k f sp ∧ mg x = some (.ref f) ∧ PySem.W.keepIn K (.ref f) = true
/-- a def as it stands behind the top -/
structure Df (K : PySem.W.Frag) (mg : Str → Option Value) (x : Str) (st : Stmt) (f : Addr) (fd : FuncData) : Prop where
  fn : Fun K x x st f fd
  mgf : mg x = some (.ref f)
  kp : PySem.W.keepIn K (.ref f) = true
def E0 : XK := fun _ _ _ => False
section
variable {X : Cx} {k j : Nat} {x : Str} {sp : Sp} {p pos : Pos} {e : Expr} {es : List Expr} {t : TA}
theorem pe_cl (c : Cl X.prog X.w X.K X.mg X.base k x sp) (hr : Room j X.A) (hk : k ≤ j) (hg : Gl X x) (ha : PA X (e :: es) t)
    (hdb : (x == ("__debug__" : Str)) = false := by decide) (he : starEach (e :: es) X.env = (false, eval e X.env) :: starEach es X.env := by rfl) (hpl : (backTo pos (starEach es X.env)).any (·.1) = false := by rfl) :
    PE X (.Call (.Name x p) (e :: es) [] pos) (tCall sp [] E0 t) := by
  obtain ⟨f, fd, ps, F, hm, kp, b⟩ := c.ex
  exact pe_call F (hr.mono hk) hg hm kp b .nil pass0 ha hdb he hpl
theorem pef_cl (c : ClT X.prog X.w X.K X.mg X.base k x sp) (hr : Room j X.A) (hk : k ≤ j) (hg : Gl X x) (ha : PA X (e :: es) t)
    (hdb : (x == ("__debug__" : Str)) = false := by decide) (he : starEach (e :: es) X.env = (false, eval e X.env) :: starEach es X.env := by rfl) (hpl : (backTo pos (starEach es X.env)).any (·.1) = false := by rfl) :
    PEF X (.Call (.Name x p) (e :: es) [] pos) (fun σ H Q => t σ H fun vs H1 => sp vs H1 Q E0) := by
  obtain ⟨f, F, hm, kp⟩ := c.ex
  exact pef_call F (hr.mono hk) hg hm kp pass0 ha hdb he hpl
end
/-! ### what the top has bound -/
structure Nms (mg : Str → Option Value) : Prop where
  len : mg "len" = none
  int : mg "int" = none
  abs : mg "abs" = none
  max : mg "max" = none
  min : mg "min" = none
  range : mg "range" = none
  isi : mg "isinstance" = none
  str : mg "str" = none
  tuple : mg "tuple" = none
  bool : mg "bool" = none
  all : mg "all" = none
  set : mg "set" = none
  enum : mg "enumerate" = none
theorem powW_ok2 {i j : Int} {a : Nat} (h : i.natAbs < 2 ^ a) (h0 : 0 < a) (hj : 0 ≤ j) (hj2 : j ≤ 1000) (ha : a ≤ 100000) : CPowW i j := by
  refine ⟨hj, ?_⟩
  have e := bits_lt h h0
  have e2 : (Builtin.Int.intBits i : Int) ≤ 100000 := by omega
  have e3 : (0:Int) ≤ (Builtin.Int.intBits i : Int) := by omega
  have : (Builtin.Int.intBits i : Int) * j ≤ 100000 * 1000 := Int.mul_le_mul e2 hj2 hj (by omega)
  omega
theorem p36 : (10 : Int) ^ (36 : Int).toNat + 67 = 1000000000000000000000000000000000067 := by decide +kernel
theorem p18 : (10 : Int) ^ (18 : Int).toNat = 1000000000000000000 := by decide +kernel
theorem p42 : (10 : Int) ^ (42 : Int).toNat + 63 = 1000000000000000000000000000000000000000063 := by decide +kernel
theorem p40 : (10 : Int) ^ (40 : Int).toNat + 121 = 10000000000000000000000000000000000000121 := by decide +kernel
theorem p6 : (10 : Int) ^ (6 : Int).toNat = 1000000 := by decide +kernel
/-! ### heaps -/
/-- only the object at j may have changed -/
def Kp (j : Addr) (H H' : Hp) : Prop := ∀ b o, b ≠ j → H b = some o → H' b = some o
theorem Kp.refl {j : Addr} {H : Hp} : Kp j H H := fun _ _ _ h => h
theorem Kp.trans {j : Addr} {H H' H'' : Hp} (a : Kp j H H') (b : Kp j H' H'') : Kp j H H'' := fun c o n h => b c o n (a c o n h)
theorem Kp.upd {j : Addr} {H : Hp} {o : HO} : Kp j H (upd H j o) := fun b u n h => by rw [upd_ne n]; exact h
theorem Kp.new {j l : Addr} {H H' : Hp} {o : HO} (a : Kp j H H') (hl : H' l = none) : Kp j H (L2.upd H' l o) := fun b u n h => by
  rw [upd_ne (ne_of_none (a b u n h) hl)]
  exact a b u n h
/-- the jar: its three numbers; at most n draws so far -/
def JarAt (H : Hp) (j : Addr) (n : Nat) : Prop := ∃ a b c : Int, H j = some (.lst [.int a, .int b, .int c]) ∧ 0 ≤ a ∧ 0 ≤ b ∧ b < 10 ^ 40 ∧ 0 ≤ c ∧ c ≤ n
theorem JarAt.le {H : Hp} {j : Addr} {n m : Nat} (h : JarAt H j n) (l : n ≤ m) : JarAt H j m := by
  obtain ⟨a, b, c, h1, h2, h3, h4, h5, h6⟩ := h
  exact ⟨a, b, c, h1, h2, h3, h4, h5, by omega⟩
theorem JarAt.new {H : Hp} {j l : Addr} {n : Nat} {o : HO} (h : JarAt H j n) (hl : H l = none) : JarAt (L2.upd H l o) j n := by
  obtain ⟨a, b, c, h1, r⟩ := h
  exact ⟨a, b, c, by rw [upd_ne (ne_of_none h1 hl)]; exact h1, r⟩
/-! ### promises -/
def spJar (K : PySem.W.Frag) : Sp := fun vs H Q _ => ∃ (a : Addr) (ns : List Int) (k : Int), vs = [.ref a, .int k] ∧ SqL K H a (ns.map V.int) ∧ ns.length ≤ 63 ∧ 0 ≤ k ∧ k < 100 ∧
  ∀ j H', H j = none → JarAt H' j 0 → (∀ b o, H b = some o → H' b = some o) → Q (.ref j) H'
def spDraw : Sp := fun vs H Q _ => ∃ (j : Addr) (m : Int) (n : Nat), vs = [.ref j, .int m] ∧ JarAt H j n ∧ n < 1000000 ∧ 1 ≤ m ∧ m ≤ 100000000000000000000000000000000000000000000000000 ∧
  ∀ r H', 0 ≤ r → r < m → JarAt H' j (n + 1) → Kp j H H' → Q (.int r) H'
def spSign : Sp := fun vs H Q _ => ∃ (j : Addr) (n : Nat), vs = [.ref j] ∧ JarAt H j n ∧ n < 1000000 ∧
  ∀ c H', c ∈ CH → JarAt H' j (n + 1) → Kp j H H' → Q (.str ⟨#[c]⟩) H'
section
variable {P : Program} {w : World} {K : PySem.W.Frag} {mg : Str → Option Value} {base : Heap}
def jarT : TE := (tLst (tCons (tCB (fun xs H Q => ∃ i j, xs = [V.int i, V.int j] ∧ Q (V.int (if j > i then j else i)) H)
            (tCons (tC (V.int 0)) (tCons (tOp (rI0 fun i j => V.int (i - j)) (tVar 2) (tOp (rI CPowW fun i j => V.int (i ^ j.toNat)) (tC (V.int 10)) (tC (V.int 18)))) tNil)))
          (tCons (tOp (rI0 fun i j => V.int (i + j)) (tOp (rI (fun _ j => 0 < j) fun i j => V.int (i % j))
                (tCB (fun xs H Q => (∃ i, xs = [V.int i] ∧ Q (V.int i) H) ∨ ∃ k, xs = [V.bl k] ∧ Q (V.int (if k = true then 1 else 0)) H) (tCons (tVar 2) tNil))
                (tOp (rI0 fun i j => V.int (i + j)) (tOp (rI CPowW fun i j => V.int (i ^ j.toNat)) (tC (V.int 10)) (tC (V.int 36))) (tC (V.int 67))))
              (tOp (rI CMul fun i j => V.int (i * j)) (tC (V.int 1299709)) (tVar 1)))
            (tCons (tC (V.int 0)) tNil))))
theorem jar_tail {a : Addr} {k z : Int} {H : Hp} {Q : VK} (hk0 : 0 ≤ k) (hk1 : k < 100) (hz0 : 0 ≤ z) (q : ∀ j H', H j = none → JarAt H' j 0 → (∀ b o, H b = some o → H' b = some o) → Q (.ref j) H') :
    jarT [some (.ref a), some (.int k), some (.int z)] H Q := by
  have pw : ∀ e : Int, 0 ≤ e → e ≤ 1000 → CPowW 10 e := fun e h0 h1 => powW_ok2 (a := 4) (by decide) (by decide) h0 h1 (by decide)
  refine ⟨_, rfl, _, _, rfl, rfl, pw 18 (by decide) (by decide), _, _, rfl, rfl, _, _, rfl, _, rfl, .inl ⟨_, rfl, _, _, rfl, rfl, pw 36 (by decide) (by decide), _, _, rfl, rfl, _, _, rfl, rfl, (show (0:Int) < 10 ^ (36 : Int).toNat + 67 by rw [p36]; decide),
    _, rfl, _, _, rfl, rfl, .inl ⟨by decide, by decide⟩, _, _, rfl, rfl, by show 3 ≤ sizeLine; decide, fun l hl => ?_⟩⟩
  refine q l _ hl ⟨_, _, _, upd_same, ?_, ?_, ?_, by decide, by decide⟩ fun b o h => by rw [upd_ne (ne_of_none h hl)]; exact h
  · split <;> omega
  · rw [p36]; omega
  · rw [p36]; omega
end
end Pd

set_option maxHeartbeats 4000000
namespace Pd
open PySem PySem.Spec PyProof.Rows L2 SX
def sg (c : Nat) : Str := ⟨#[c]⟩
theorem sg_S (c : Nat) : sg c = S [c] := rfl
/-- eight signs, in a list whose tokens are known -/
structure SgnsAt (H : Hp) (a : Addr) (gs : List Nat) : Prop where
  at_ : TxtsAt H a (gs.map sg)
  len : gs.length = 8
  ok : ∀ c ∈ gs, c ∈ CH
theorem SgnsAt.kp {H H' : Hp} {j a : Addr} {gs : List Nat} (h : SgnsAt H a gs) (k : Kp j H H') (hj : ∃ xs, H j = some (.lst xs)) : SgnsAt H' a gs := by
  refine ⟨?_, h.len, h.ok⟩
  obtain ⟨its, n, m, q, e, r⟩ := h.at_
  obtain ⟨xs, hj⟩ := hj
  have ne : a ≠ j := by rintro rfl; rw [e] at hj; cases hj
  exact ⟨its, n, m, q, k a _ ne e, r⟩
theorem SgnsAt.new {H : Hp} {l a : Addr} {gs : List Nat} {o : HO} (h : SgnsAt H a gs) (hl : H l = none) : SgnsAt (L2.upd H l o) a gs := by
  refine ⟨?_, h.len, h.ok⟩
  obtain ⟨its, n, m, q, e, r⟩ := h.at_
  exact ⟨its, n, m, q, by rw [upd_ne (ne_of_none e hl)]; exact e, r⟩
theorem SgnsAt.ne {H : Hp} {j a : Addr} {gs : List Nat} {xs : List V} (h : SgnsAt H a gs) (hj : H j = some (.lst xs)) : a ≠ j := by
  obtain ⟨its, n, m, q, e, r⟩ := h.at_
  rintro rfl; rw [e] at hj; cases hj
theorem JarAt.lst {H : Hp} {j : Addr} {n : Nat} (h : JarAt H j n) : ∃ xs, H j = some (.lst xs) := by
  obtain ⟨a, b, c, h1, _⟩ := h
  exact ⟨_, h1⟩
theorem JarAt.kp {H H' : Hp} {j : Addr} {n : Nat} (h : JarAt H j n) (e : H' j = H j) : JarAt H' j n := by
  obtain ⟨a, b, c, h1, r⟩ := h
  exact ⟨a, b, c, e.trans h1, r⟩
theorem S_at {l : List Nat} {i : Nat} (h : i < l.length) : (S l).cps[i]? = some l[i] := by
  show l.toArray[i]? = _
  simp [h]
theorem abc_S : ("abcdefghijklmnopqrstuvwxyz" : Str) = S (CH.take 26) := by decide +kernel
theorem digits_S : ("0123456789" : Str) = S ((CH.drop 52).take 10) := by decide +kernel
theorem small_CH : ∀ c ∈ CH.take 26, c ∈ CH ∧ c < 128 ∧ up1 c ∈ CH := by decide
theorem dig_CH : ∀ c ∈ (CH.drop 52).take 10, c ∈ CH := by decide
def spSigns : Sp := fun vs H Q _ => ∃ (j : Addr) (n : Nat), vs = [.ref j] ∧ JarAt H j n ∧ n + 6 < 1000000 ∧
  ∀ p gs H', H p = none → SgnsAt H' p gs → JarAt H' j (n + 6) → Kp j H H' → Q (.ref p) H'
theorem upper_sg {c : Nat} (h : c < 128) : Txt.upper (sg c) = sg (up1 c) := upper_S (a := [c]) (by simpa using h)
section
variable {P : Program} {w : World} {K : PySem.W.Frag} {mg : Str → Option Value} {base : Heap}
end
end Pd

set_option maxHeartbeats 4000000
namespace Pd
open PySem PySem.Spec PyProof.Rows L2 SX
/-! ### repeated texts -/
theorem fold_rep (x : List Nat) : ∀ (k : Nat) (acc : Array Nat), ∃ m : List Nat, ((List.replicate k x.toArray).foldl (· ++ ·) acc) = (acc.toList ++ m).toArray ∧ m.length = k * x.length ∧ ∀ c ∈ m, c ∈ x
  | 0, acc => ⟨[], by simp, by simp, fun _ h => nomatch h⟩
  | k + 1, acc => by
    obtain ⟨m, e, l, h⟩ := fold_rep x k (acc ++ x.toArray)
    refine ⟨x ++ m, ?_, by rw [List.length_append, l, Nat.add_one_mul]; omega, fun c hc => ?_⟩
    · rw [List.replicate_succ, List.foldl_cons, e]
      simp
    · rcases List.mem_append.mp hc with hc | hc
      · exact hc
      · exact h c hc
theorem mul_S (l : List Nat) {n : Int} (h0 : 0 ≤ n) : ∃ m : List Nat, Txt.mul (S l) n = S m ∧ m.length ≤ n.toNat * l.length ∧ ∀ c ∈ m, c ∈ l := by
  unfold Txt.mul
  split
  · exact ⟨[], rfl, by simp, fun _ h => nomatch h⟩
  · split
    · refine ⟨l, rfl, ?_, fun _ h => h⟩
      have : 1 ≤ n.toNat := by omega
      calc l.length = 1 * l.length := (Nat.one_mul _).symm
        _ ≤ n.toNat * l.length := Nat.mul_le_mul_right _ this
    · obtain ⟨m, e, hl, hm⟩ := fold_rep l n.toNat #[]
      refine ⟨m, ?_, Nat.le_of_eq hl, hm⟩
      show (⟨(List.replicate n.toNat l.toArray).foldl (· ++ ·) #[]⟩ : Str) = _
      rw [e]
      simp [S]
theorem mulOk_S {l : List Nat} {n : Int} (h0 : 0 ≤ n) (h1 : n ≤ 60) (hl : l.length ≤ 1000) : PySem.MulOk (S l) n := by
  refine ⟨?_, fun h2 _ => ?_, fun h2 _ => ?_⟩
  · rw [decide_eq_false (by omega), decide_eq_false (by omega)]; rfl
  · rw [S_len]
    intro h3
    have h5 : (l.length : Int) * n ≤ 1000 * 60 := Int.mul_le_mul (by omega) h1 h0 (by omega)
    have h6 : (l.length : Int) ≤ (2 ^ 63 - 1 : Int) / n := Int.le_ediv_of_mul_le (by omega) (by omega)
    omega
  · rw [S_len]
    refine PyProof.Rows.short24 ?_
    have : l.length * n.toNat ≤ 1000 * 60 := Nat.mul_le_mul hl (by omega)
    omega

def spText : Sp := fun vs H Q _ => ∃ (j a : Addr) (n : Nat) (gs : List Nat), vs = [.ref j, .ref a] ∧ JarAt H j n ∧ SgnsAt H a gs ∧ n + 100 < 1000000 ∧
  ∀ l H', Good l → JarAt H' j (n + 100) → Kp j H H' → Q (.str (S l)) H'
theorem SgnsAt.item {H : Hp} {a : Addr} {gs : List Nat} (h : SgnsAt H a gs) {r : Int} (h0 : 0 ≤ r) (h1 : r < 8) : ∃ c ∈ CH, atI ((gs.map sg).map V.str) r = some (.str (sg c)) := by
  have e : r.toNat < gs.length := by rw [h.len]; omega
  refine ⟨gs[r.toNat], h.ok _ (List.getElem_mem e), ?_⟩
  have z := atI_nat (xs := (gs.map sg).map V.str) (j := r.toNat) (v := .str (sg gs[r.toNat])) (by simp [e])
  have e2 : ((r.toNat : Nat) : Int) = r := by omega
  rw [e2] at z
  exact z
theorem SgnsAt.len' {H : Hp} {a : Addr} {gs : List Nat} (h : SgnsAt H a gs) : (((gs.map sg).map V.str).length : Int) = 8 := by
  rw [List.length_map, List.length_map, h.len]; rfl
theorem four_item {r : Int} (h0 : 0 ≤ r) (h1 : r < 4) : ∃ m : Int, atI [V.int 1, V.int 1, V.int 2, V.int 5] r = some (.int m) ∧ 0 ≤ m ∧ m ≤ 5 := by
  obtain rfl | rfl | rfl | rfl : r = 0 ∨ r = 1 ∨ r = 2 ∨ r = 3 := by omega
  · exact ⟨1, rfl, by decide, by decide⟩
  · exact ⟨1, rfl, by decide, by decide⟩
  · exact ⟨2, rfl, by decide, by decide⟩
  · exact ⟨5, rfl, by decide, by decide⟩
section
variable {P : Program} {w : World} {K : PySem.W.Frag} {mg : Str → Option Value} {base : Heap}
end
end Pd

set_option maxHeartbeats 4000000
namespace Pd
open PySem PySem.Spec PyProof.Rows L2 SX
def spDropped : Sp := fun vs H Q _ => ∃ (j a : Addr) (n : Nat) (gs : List Nat), vs = [.ref j, .ref a] ∧ JarAt H j n ∧ SgnsAt H a gs ∧ n + 40 < 1000000 ∧
  ∀ cs H', Stp.ok (.drop cs) → JarAt H' j (n + 40) → Kp j H H' → Q (.str (S cs)) H'
theorem three_item {r : Int} (h0 : 0 ≤ r) (h1 : r < 3) : ∃ m : Int, atI [V.int 0, V.int 1, V.int 9] r = some (.int m) ∧ 0 ≤ m ∧ m ≤ 9 := by
  obtain rfl | rfl | rfl : r = 0 ∨ r = 1 ∨ r = 2 := by omega
  · exact ⟨0, rfl, by decide, by decide⟩
  · exact ⟨1, rfl, by decide, by decide⟩
  · exact ⟨9, rfl, by decide, by decide⟩
/-- a step in the heap -/
def stpVals : Stp → List V
  | .low => [.str "lower"]
  | .swap a b => [.str "swap", .str (sg a), .str (sg b)]
  | .drop cs => [.str "drop", .str (S cs)]
  | .lead a => [.str "lead", .str (sg a)]
  | .once a => [.str "once", .str (sg a)]
  | .cut n => [.str "cut", .int (n : Nat)]
/-- a step of once: a tuple, or one whose object is known -/
def OnceAt (H : Hp) (p : Addr) (a : Str) : Prop := H p = Option.some (.tup [.str "once", .str a]) ∨ ∃ o, H p = Option.some (.frz o (.tup [.str "once", .str a]))
def StpAt (H : Hp) (p : Addr) : Stp → Prop
  | .swap a b => SwapAt H p (sg a) (sg b)
  | .once a => OnceAt H p (sg a)
  | st => H p = some (.tup (stpVals st))
theorem StpAt.seq {K : PySem.W.Frag} {H : Hp} {p : Addr} {st : Stp} (h : StpAt H p st) : SqT K H p (stpVals st) := by
  cases st with
  | swap a b => exact SwapAt.seq h
  | low => exact SqT.of h
  | drop _ => exact SqT.of h
  | lead _ => exact SqT.of h
  | once _ =>
    rcases h with h | ⟨o, h⟩
    · exact SqT.of h
    · exact .inl (.inr ⟨o, h⟩)
  | cut _ => exact SqT.of h
theorem StpAt.some {H : Hp} {p : Addr} {st : Stp} (h : StpAt H p st) : ∃ o, H p = some o ∧ ∀ xs, o ≠ .lst xs := by
  cases st with
  | swap a b =>
    obtain ⟨n, t0, t, u, e, _⟩ := h
    exact ⟨_, e, fun _ h => nomatch h⟩
  | low => exact ⟨_, h, fun _ h => nomatch h⟩
  | drop _ => exact ⟨_, h, fun _ h => nomatch h⟩
  | lead _ => exact ⟨_, h, fun _ h => nomatch h⟩
  | once _ =>
    rcases h with h | ⟨o, h⟩
    · exact ⟨_, h, fun _ h => nomatch h⟩
    · exact ⟨_, h, fun _ h => nomatch h⟩
  | cut _ => exact ⟨_, h, fun _ h => nomatch h⟩
/-- what stands at p is the same -/
theorem StpAt.same {H H' : Hp} {p : Addr} {st : Stp} (h : StpAt H p st) (e : ∀ o, H p = Option.some o → H' p = Option.some o) : StpAt H' p st := by
  cases st with
  | swap a b => exact SwapAt.same h fun o u x => e _ x
  | low => exact e _ h
  | drop _ => exact e _ h
  | lead _ => exact e _ h
  | once _ =>
    rcases h with h | ⟨o, h⟩
    · exact .inl (e _ h)
    · exact .inr ⟨o, e _ h⟩
  | cut _ => exact e _ h
theorem StpAt.kp {H H' : Hp} {j p : Addr} {st : Stp} {xs : List V} (h : StpAt H p st) (k : Kp j H H') (hj : H j = Option.some (.lst xs)) : StpAt H' p st := by
  refine h.same fun o x => k p o ?_ x
  rintro rfl
  obtain ⟨o', x', ne⟩ := h.some
  rw [hj] at x'; cases x'
  exact ne _ rfl
theorem StpAt.new {H : Hp} {l p : Addr} {st : Stp} {o : HO} (h : StpAt H p st) (hl : H l = none) : StpAt (L2.upd H l o) p st :=
  h.same fun o x => by rw [upd_ne (ne_of_none x hl)]; exact x
def spStep : Sp := fun vs H Q _ => ∃ (j a : Addr) (n : Nat) (gs : List Nat), vs = [.ref j, .ref a] ∧ JarAt H j n ∧ SgnsAt H a gs ∧ n + 50 < 1000000 ∧
  ∀ p st H', H p = none → st.ok → StpAt H' p st → JarAt H' j (n + 50) → Kp j H H' → Q (.ref p) H'
theorem Kp.none {j p : Addr} {H H' : Hp} (k : Kp j H H') (hp : H' p = none) (hj : ∃ xs, H j = some (.lst xs)) (hj' : ∃ xs, H' j = some (.lst xs)) : H p = none := by
  cases h : H p with
  | none => rfl
  | some o =>
    by_cases e : p = j
    · subst e
      obtain ⟨xs, h'⟩ := hj'
      rw [h'] at hp; cases hp
    · rw [k p o e h] at hp; cases hp
section
variable {P : Program} {w : World} {K : PySem.W.Frag} {mg : Str → Option Value} {base : Heap}
end
end Pd

set_option maxHeartbeats 4000000
namespace Pd
open PySem PySem.Spec PyProof.Rows L2 SX
section
variable {P : Program} {w : World} {K : PySem.W.Frag} {mg : Str → Option Value} {base : Heap}
end
end Pd

set_option maxHeartbeats 4000000
namespace Pd
open PySem PySem.Spec PyProof.Rows L2 SX
/-! ### comprehensions over a text that give signs -/
def Ext (H H' : Hp) : Prop := ∀ b o, H b = some o → H' b = some o
theorem Ext.refl {H : Hp} : Ext H H := fun _ _ h => h
theorem Ext.trans {H H' H'' : Hp} (a : Ext H H') (b : Ext H' H'') : Ext H H'' := fun c o h => b c o (a c o h)
theorem Ext.new {H H' : Hp} {D : Addr} {o : HO} (a : Ext H H') (h : H D = none) : Ext H (upd H' D o) := fun b u e => by
  rw [upd_ne (ne_of_none e h)]; exact a b u e
theorem Ext.kp {H H' : Hp} {j : Addr} (a : Ext H H') : Kp j H H' := fun b o _ h => a b o h
theorem StpAt.ext {H H' : Hp} {p : Addr} {st : Stp} (h : StpAt H p st) (k : Ext H H') : StpAt H' p st := h.same fun o x => k p o x
theorem lc_text {l : List Nat} {g : TG} {tt : TT} {te : TE} {vs : List Nat} {σ : L2.St} {H1 : Hp} {D : Addr} {Qd : Hp → Prop} (f : Nat → Option Nat) (hl : l.length ≤ 1000) (hD : H1 D = none)
    (hs : ∀ c H acc (Nx : Hp → Prop), c ∈ l → Ext H1 H → H D = some (.lst acc) → acc.length < sizeLine →
      (∀ H', H' D = some (.lst (acc ++ ((f c).toList.map sg).map V.str)) → Ext H1 H' → Nx H') →
      g (.str (sg c)) (wipe σ vs) H fun σ2 H2 => wipe σ2 vs = wipe σ vs ∧ tt σ2 H2 fun b H3 =>
        if b = true then te σ2 H3 fun y H4 => ∃ acc', H4 D = some (.lst acc') ∧ acc'.length < sizeLine ∧ Nx (upd H4 D (.lst (acc' ++ [y]))) else Nx H3)
    (hd : ∀ H, H D = some (.lst (((l.filterMap f).map sg).map V.str)) → Ext H1 H → Qd H) :
    ∃ W : Nat → Nat → Hp → Prop, (∃ m, W 0 m (upd H1 D (.lst []))) ∧ ∀ i m H, W i m H →
      ((Its (S l)).stop i H ∧ Qd H) ∨ ((Its (S l)).go i H ∧ ∃ Nx : Hp → Prop, (∀ H', Nx H' → ∃ m', m' < m ∧ W (i + 1) m' H') ∧ ∀ x H', (Its (S l)).yld i H x H' → g x (wipe σ vs) H' fun σ2 H2 => wipe σ2 vs = wipe σ vs ∧ tt σ2 H2 fun b H3 =>
        if b = true then te σ2 H3 fun y H4 => ∃ acc, H4 D = some (.lst acc) ∧ acc.length < sizeLine ∧ Nx (upd H4 D (.lst (acc ++ [y]))) else Nx H3) := by
  have hsz : (S l).cps.size = l.length := by simp [S]
  have key := lc_it (g := g) (tt := tt) (te := te) (vs := vs) (σ := σ) (H1 := H1) (D := D) (Qd := Qd) (walk_str (z := S l))
    (fun i H => H D = some (.lst ((((l.take i).filterMap f).map sg).map V.str)) ∧ Ext H1 H) ⟨by rw [List.take_zero]; exact upd_same, Ext.refl.new hD⟩ (fun _ _ _ _ => trivial) ?_ ?_
  · exact key
  · rintro i x H H' hi ⟨h1, h2⟩ ⟨rfl, c, hc, rfl⟩
    have hc' : l[i]? = some c := by simpa [S] using hc
    have hil : i < l.length := (List.getElem?_eq_some_iff.mp hc').1
    have hb : ∀ k, (((l.take k).filterMap f).map sg).length ≤ 1000 := fun k => by
      rw [List.length_map]
      exact Nat.le_trans (List.length_filterMap_le _ _) (Nat.le_trans (List.length_take_le' _ _) hl)
    refine hs c H' _ _ (List.mem_of_getElem? hc') h2 h1 (by rw [List.length_map, sizeLine_eq]; have := hb i; omega) fun H'' e1 e2 => ⟨?_, e2⟩
    rw [e1, List.take_succ, hc', List.filterMap_append, List.map_append, List.map_append]
    congr 4
  · rintro H ⟨h1, h2⟩
    rw [hsz, List.take_length] at h1
    exact hd H h1 h2
theorem joinL_sg : ∀ m : List Nat, TL.joinL [] (m.map fun c => [c]) = m
  | [] => rfl
  | [c] => rfl
  | c :: d :: r => by
    have ih := joinL_sg (d :: r)
    show [c] ++ ([] ++ TL.joinL [] ((d :: r).map fun c => [c])) = c :: d :: r
    rw [ih]
    rfl
theorem join_sg (m : List Nat) : Txt.join "" (m.map sg) = S m := by
  have e : m.map sg = (m.map fun c => [c]).map S := by rw [List.map_map]; rfl
  have e2 : ("" : Str) = S [] := rfl
  rw [e, e2, join_S, joinL_sg]
theorem sum_sg (m : List Nat) : ((m.map sg).map (·.length)).sum = m.length := by
  induction m with
  | nil => rfl
  | cons c m ih =>
    rw [List.map_cons, List.map_cons, List.sum_cons, ih, List.length_cons]
    show 1 + m.length = m.length + 1
    omega
/-- what join asks of such a list -/
theorem join_ask {K : PySem.W.Frag} {H : Hp} {p : Addr} {m : List Nat} {Q : VK} (h : H p = some (.lst ((m.map sg).map V.str))) (hl : m.length ≤ 1000) (q : Q (.str (S m)) H) :
    ∃ a p', ∃ ys : List Str, V.str "" = .str a ∧ [V.ref p] = [.ref p'] ∧ (SqL K H p' (ys.map V.str) ∨ SqT K H p' (ys.map V.str)) ∧
      (ys.map (·.length)).sum + ys.length * a.length ≤ 16777216 ∧ Q (.str (Txt.join a ys)) H := by
  refine ⟨_, p, m.map sg, rfl, rfl, .inl (SqL.of h), ?_, by rw [join_sg]; exact q⟩
  rw [sum_sg, List.length_map]
  show m.length + m.length * 0 ≤ 16777216
  omega
/-! ### the letters' places -/
theorem ABC_S : ("ABCDEFGHIJKLMNOPQRSTUVWXYZ" : Str) = S ((CH.drop 26).take 26) := by decide +kernel
theorem find_CH : ∀ c ∈ CH, Txt.find "ABCDEFGHIJKLMNOPQRSTUVWXYZ" (sg c) = if 65 ≤ c ∧ c ≤ 90 then ((c : Int) - 65) else -1 := by decide +kernel
theorem abc_at : ∀ c ∈ CH, 65 ≤ c ∧ c ≤ 90 → (CH.take 26)[c - 65]? = some (c + 32) := by decide +kernel
def spSmall : Sp := fun vs H Q _ => ∃ c, vs = [.str (sg c)] ∧ c ∈ CH ∧ Q (.str (sg (lowC c))) H
section
variable {P : Program} {w : World} {K : PySem.W.Frag} {mg : Str → Option Value} {base : Heap}
end
end Pd

set_option maxHeartbeats 4000000
namespace Pd
open PySem PySem.Spec PyProof.Rows L2 SX
def wordOf : Stp → Str
  | .low => "lower" | .swap _ _ => "swap" | .drop _ => "drop" | .lead _ => "lead" | .once _ => "once" | .cut _ => "cut"
theorem word_at (st : Stp) : atI (stpVals st) 0 = some (.str (wordOf st)) := by cases st <;> rfl
def spMade : Sp := fun vs H Q _ => ∃ (p : Addr) (st : Stp) (l : List Nat), vs = [.ref p, .str (S l)] ∧ StpAt H p st ∧ st.ok ∧ Good l ∧ ∀ H', Ext H H' → Q (.str (S (mk st l))) H'
theorem fm_map (f : Nat → Nat) (l : List Nat) : l.filterMap (fun c => some (f c)) = l.map f := by
  induction l with
  | nil => rfl
  | cons c l ih => simp [List.filterMap_cons, ih]
theorem fm_filter (p : Nat → Prop) [DecidablePred p] (l : List Nat) : l.filterMap (fun c => if p c then some c else none) = l.filter (fun c => decide (p c)) := by
  induction l with
  | nil => rfl
  | cons c l ih =>
    by_cases h : p c
    · simp [List.filterMap_cons, h, ih]
    · simp [List.filterMap_cons, h, ih]
theorem mk_low (l : List Nat) : mk .low l = l.filterMap (fun c => some (lowC c)) := (fm_map _ l).symm
theorem mk_swap (a b : Nat) (l : List Nat) : mk (.swap a b) l = l.filterMap (fun c => some (swapC a b c)) := (fm_map _ l).symm
theorem mk_drop (cs : List Nat) (l : List Nat) : mk (.drop cs) l = l.filterMap (fun c => if c ∉ cs then some c else none) := (fm_filter _ l).symm
theorem ix_tupK {X : Cx} {K : PySem.W.Frag} (h : X.K = K) : IxR X (rIxT K) := by
  subst h; exact ix_tup
theorem ix_listK {X : Cx} {K : PySem.W.Frag} (h : X.K = K) : IxR X (rIxL K) := by
  subst h; exact ix_list
theorem sg_eq {a b : Nat} : V.str (sg a) = V.str (sg b) ↔ a = b := by
  constructor
  · intro h
    injection h with h
    have := SX.S_inj (a := [a]) (b := [b]) h
    injection this
  · rintro rfl; rfl
theorem slice_one (x : List Nat) (c : Nat) : ∃ m, Txt.slice (S x) (some (-1)) none = S m ∧ (V.str (S m) = V.str (sg c) ↔ x.getLast? = some c) := by
  by_cases h : x = []
  · subst h
    refine ⟨[], by decide +kernel, ?_⟩
    constructor
    · intro e
      injection e with e
      have := SX.S_inj (a := []) (b := [c]) e
      cases this
    · intro e; simp at e
  · refine ⟨_, slice_last h, ?_⟩
    have hp : 0 < x.length := List.length_pos_iff.mpr h
    have e : x.drop (x.length - 1) = [x[x.length - 1]] := by
      rw [List.drop_eq_getElem_cons (by omega)]
      rw [show x.length - 1 + 1 = x.length by omega, List.drop_length]
    rw [e]
    have e2 : x.getLast? = some (x[x.length - 1]) := by
      rw [List.getLast?_eq_getElem?, List.getElem?_eq_getElem (by omega)]
    rw [e2]
    constructor
    · intro h2
      rw [sg_eq.mp (show V.str (sg _) = V.str (sg c) from h2)]
    · intro h2
      injection h2 with h2
      rw [h2]; rfl
theorem drop_while_step {a : Nat} {l : List Nat} {i : Nat} (h : l[i]? = some a) : (l.drop i).dropWhile (fun c => decide (c = a)) = (l.drop (i + 1)).dropWhile (fun c => decide (c = a)) := by
  obtain ⟨hi, e⟩ := List.getElem?_eq_some_iff.mp h
  rw [List.drop_eq_getElem_cons hi, List.dropWhile_cons_of_pos (by simp [e])]
theorem drop_while_stop {a c : Nat} {l : List Nat} {i : Nat} (h : l[i]? = some c) (hc : c ≠ a) : (l.drop i).dropWhile (fun c => decide (c = a)) = l.drop i := by
  obtain ⟨hi, e⟩ := List.getElem?_eq_some_iff.mp h
  rw [List.drop_eq_getElem_cons hi, List.dropWhile_cons_of_neg (by simp [e, hc])]
section
variable {P : Program} {w : World} {K : PySem.W.Frag} {mg : Str → Option Value} {base : Heap}
end
end Pd

set_option maxHeartbeats 4000000
namespace Pd
open PySem PySem.Spec PyProof.Rows L2 SX
/-! ### the second family of drawing defs: wells and pools -/
theorem p27 : (10 : Int) ^ (27 : Int).toNat + 103 = 1000000000000000000000000103 := by decide +kernel
theorem p40' : (10 : Int) ^ (40 : Int).toNat + 121 = 10000000000000000000000000000000000000121 := by decide +kernel
theorem p38 : (10 : Int) ^ (38 : Int).toNat + 133 = 100000000000000000000000000000000000133 := by decide +kernel
theorem p9 : (10 : Int) ^ (9 : Int).toNat = 1000000000 := by decide +kernel
section
variable {P : Program} {w : World} {K : PySem.W.Frag} {mg : Str → Option Value} {base : Heap}
theorem ok_well {f : Addr} {fd : FuncData} (F : Fun K "_law_well" "_law_well" sLawWell f fd) (T : Nms mg) : FnOk P w K mg base CX0 1 f fd ["script", "k"] (spJar K) := by
  refine F.ok scLawWell (fun vs H Q E h => ?_) (fun cdv A outer s H vs Q E hr h => ?_)
  · obtain ⟨a, ns, k, rfl, _⟩ := h
    rfl
  · obtain ⟨a, ns, k, rfl, hS, hl, hk0, hk1, q⟩ := h
    have nd := scLawWell.nd
    have pw : ∀ e : Int, 0 ≤ e → e ≤ 1000 → CPowW 10 e := fun e h0 h1 => powW_ok2 (a := 4) (by decide) (by decide) h0 h1 (by decide)
    refine ⟨_, pss_cons (ps_set (i := 2) nd rfl (Or.inl rfl) pe_int)
      (C8.pss_cut (ps_if (pt_cmpR op_lt (pv 1) (pe_callB call_len_seq (by rfl) T.len PySem.boot_len (pa_cons (pv 0) pa_nil)) (nomark _))
        (pss_one (ps_set (i := 2) nd rfl (Or.inl rfl) (pe_callTy call_int1 (by rfl) T.int (by decide +kernel) (pa_cons (pe_ix ix_list (pv 0) (pv 1) (fun _ _ => rfl)) pa_nil)))) pss_nil)
      (pss_cons (ps_set (i := 3) nd rfl (Or.inl rfl) (pe_op op_mul pe_int (pv 2)))
      (C8.pss_cut (ps_if (pt_cmpR op_lt (pv 2) pe_int (nomark _)) (pss_one (ps_set (i := 3) nd rfl (Or.inl rfl) (pe_op op_sub (pe_op op_mul (pe_un un_neg pe_int) (pv 2)) pe_int))) pss_nil)
      (pss_one (ps_ret (pe_lst (pa_cons (pe_callB (call_max2 rfl) (by rfl) T.max (by decide +kernel) (pa_cons pe_int (pa_cons (pe_op op_sub (pv 3) (pe_op op_powW pe_int pe_int)) pa_nil)))
        (pa_cons (pe_op op_add (pe_op op_mod (pe_callTy call_int1 (by rfl) T.int (by decide +kernel) (pa_cons (pv 3) pa_nil)) (pe_op op_add (pe_op op_powW pe_int pe_int) pe_int)) (pe_op op_mul pe_int (pv 1)))
        (pa_cons pe_int pa_nil))))))))), ?_⟩
    refine ⟨fun σ' H' => H' = H ∧ ∃ c : Int, σ' = [some (.ref a), some (.int k), some (.int c), none], ?_, ?_⟩
    · refine ⟨_, rfl, _, rfl, a, _, rfl, .inl hS, _, _, rfl, rfl, _, rfl, ite2 (fun hlt => ?_) (fun _ => ⟨rfl, 0, rfl⟩)⟩
      rw [List.length_map] at hlt
      have hlt' := of_decide_eq_true hlt
      have hkn : k.toNat < ns.length := by omega
      have hat : atI (ns.map V.int) k = some (.int (ns[k.toNat]'hkn)) := by
        have e : ((k.toNat : Nat) : Int) = k := by omega
        have z := atI_nat (xs := ns.map V.int) (j := k.toNat) (v := .int (ns[k.toNat]'hkn)) (by simp [hkn])
        rw [e] at z
        exact z
      exact ⟨_, rfl, _, rfl, a, _, _, _, rfl, rfl, hS, hat, .inl ⟨_, rfl, rfl, _, rfl⟩⟩
    · rintro σ' H' ⟨rfl, c, rfl⟩
      refine ⟨_, rfl, _, _, rfl, rfl, .inl ⟨by decide, by decide⟩, ?_⟩
      refine ⟨fun σ' H'' => H'' = H' ∧ ∃ d : Int, σ' = [some (.ref a), some (.int k), some (.int c), some (.int d)], ?_, ?_⟩
      · refine ⟨_, rfl, _, _, rfl, rfl, _, rfl, ite2 (fun hlt => ?_) (fun _ => ⟨rfl, _, rfl⟩)⟩
        exact ⟨_, rfl, _, rfl, _, _, rfl, rfl, .inl ⟨by decide, by decide⟩, _, _, rfl, rfl, rfl, _, rfl⟩
      · rintro σ' H'' ⟨rfl, d, rfl⟩
        refine ⟨_, rfl, _, _, rfl, rfl, pw 18 (by decide) (by decide), _, _, rfl, rfl, _, _, rfl, _, rfl, .inl ⟨_, rfl, _, _, rfl, rfl, pw 27 (by decide) (by decide), _, _, rfl, rfl, _, _, rfl, rfl, (show (0:Int) < 10 ^ (27 : Int).toNat + 103 by rw [p27]; decide),
          _, rfl, _, _, rfl, rfl, .inl ⟨by decide, by decide⟩, _, _, rfl, rfl, by show 3 ≤ sizeLine; decide, fun l hl => ?_⟩⟩
        refine q l _ hl ⟨_, _, _, upd_same, ?_, ?_, ?_, by decide, by decide⟩ fun b o h => by rw [upd_ne (ne_of_none h hl)]; exact h
        · split <;> omega
        · rw [p27]; omega
        · rw [p27]; omega
theorem ok_bdraw {f : Addr} {fd : FuncData} (F : Fun K "_law_draw" "_law_draw" sLawDraw f fd) (T : Nms mg) : FnOk P w K mg base CX0 1 f fd ["well", "many"] spDraw := by
  refine F.ok scLawDraw (fun vs H Q E h => ?_) (fun cdv A outer s H vs Q E hr h => ?_)
  · obtain ⟨j, m, n, rfl, _⟩ := h
    rfl
  · obtain ⟨j, m, n, rfl, hJ, hn, hm1, hm2, q⟩ := h
    have nd := scLawDraw.nd
    obtain ⟨a, b, c, hj, ha, hb0, hb, hc0, hc⟩ := hJ
    have S : ∀ {H : Hp} {xs : List V}, H j = some (.lst xs) → SqL K H j xs := fun h => SqL.of h
    refine ⟨_, pss_cons (ps_if (pt_cmpR op_gt (pe_ix ix_list (pv 0) pe_int (fun _ _ => rfl)) pe_int (nomark _))
        (pss_cons (ps_set (i := 2) nd rfl (Or.inl rfl) (pe_op op_mod (pe_callTy call_int1 (by rfl) T.int (by decide +kernel) (pa_cons (pe_ix ix_list (pv 0) pe_int (fun _ _ => rfl)) pa_nil)) (pv 1)))
        (pss_cons (ps_asg (pe_op op_fdivW (pe_ix ix_list (pv 0) pe_int (fun _ _ => rfl)) (pv 1)) (pg_sub (pv 0) pe_int set_list))
        (pss_one (ps_ret (pv 2))))) pss_nil)
      (pss_cons (ps_set (i := 3) nd rfl (Or.inl rfl) (pe_op op_add (pe_ix ix_list (pv 0) pe_int (fun _ _ => rfl)) pe_int))
      (pss_cons (ps_asg (pv 3) (pg_sub (pv 0) pe_int set_list))
      (pss_cons (ps_set (i := 4) nd rfl (Or.inl rfl) (pe_op op_mod (pe_callTy call_int1 (by rfl) T.int (by decide +kernel) (pa_cons
          (pe_op op_add (pe_op op_powW (pe_op op_add (pe_ix ix_list (pv 0) pe_int (fun _ _ => rfl)) (pe_op op_mul pe_int (pv 3))) pe_int) (pe_op op_mul pe_int (pv 3))) pa_nil))
          (pe_op op_add (pe_op op_powW pe_int pe_int) pe_int)))
      (pss_cons (ps_set (i := 4) nd rfl (Or.inl rfl) (pe_op op_mod (pe_callTy call_int1 (by rfl) T.int (by decide +kernel) (pa_cons
          (pe_op op_powW (pe_op op_add (pv 4) (pe_op op_mul pe_int (pv 3))) pe_int) pa_nil))
          (pe_op op_add (pe_op op_powW pe_int pe_int) pe_int)))
      (pss_one (ps_ret (pe_op op_mod (pe_callTy call_int1 (by rfl) T.int (by decide +kernel) (pa_cons (pe_op op_fdivW (pv 4) (pe_op op_powW pe_int pe_int)) pa_nil)) (pv 1)))))))), ?_⟩
    have pw : ∀ e : Int, 0 ≤ e → e ≤ 1000 → CPowW 10 e := fun e h0 h1 => powW_ok2 (a := 4) (by decide) (by decide) h0 h1 (by decide)
    have m20 : m.natAbs < 2 ^ 200 := by
      have : (2:Nat)^200 = 1606938044258990275541962092341162602522202993782792835301376 := by decide +kernel
      skip
      omega
    refine ⟨_, rfl, j, _, 0, _, rfl, rfl, S hj, rfl, _, _, rfl, rfl, _, rfl, ite2 (fun hlt => ?_) (fun hlt => ?_)⟩
    · refine ⟨_, rfl, j, _, 0, _, rfl, rfl, S hj, rfl, .inl ⟨_, rfl, _, rfl, _, _, rfl, rfl, (show 0 < m by omega), ?_⟩⟩
      refine ⟨_, rfl, j, _, 0, _, rfl, rfl, S hj, rfl, _, rfl, _, _, rfl, rfl, wide_div (by omega) m20 (by decide) (by decide), ?_⟩
      refine ⟨_, rfl, j, _, 0, 0, rfl, rfl, hj, rfl, _, rfl, ?_⟩
      refine q _ _ (Int.emod_nonneg _ (by omega)) (Int.emod_lt_of_pos _ (by omega)) ⟨a / m, b, c, upd_same, Int.ediv_nonneg ha (by omega), hb0, hb, hc0, by omega⟩ .upd
    · refine ⟨_, rfl, j, _, 2, _, rfl, rfl, S hj, rfl, _, _, rfl, rfl, ?_⟩
      refine ⟨_, rfl, _, rfl, j, _, 2, 2, rfl, rfl, hj, rfl, ?_⟩
      have hj2 : (L2.upd H j (.lst [V.int a, V.int b, V.int (c + 1)])) j = some (.lst [V.int a, V.int b, V.int (c + 1)]) := upd_same
      show tSeq _ _ _ _ (L2.upd H j (.lst [V.int a, V.int b, V.int (c + 1)]))
      have l140 : (2:Nat)^140 = 1393796574908163946345982392040522594123776 := by decide +kernel
      refine ⟨_, rfl, j, _, 1, _, rfl, rfl, S hj2, rfl, _, rfl, _, _, rfl, rfl, .inl ⟨by decide, by decide⟩, _, _, rfl, rfl, _, _, rfl, rfl, powW_ok2 (a := 140) (by rw [l140]; omega) (by decide) (by decide) (by decide) (by decide),
        _, rfl, _, _, rfl, rfl, .inl ⟨by decide, by decide⟩, _, _, rfl, rfl, .inl ⟨_, rfl, _, _, rfl, rfl, pw 40 (by decide) (by decide), _, _, rfl, rfl, _, _, rfl, rfl, (show (0:Int) < 10 ^ (40 : Int).toNat + 121 by rw [p40']; decide), ?_⟩⟩
      generalize hs : ((b + 15485863 * (c + 1)) ^ Int.toNat 3 + 982451653 * (c + 1)) % (10 ^ Int.toNat 40 + 121) = st
      have hs0 : 0 ≤ st := by rw [← hs]; exact Int.emod_nonneg _ (by rw [p40']; decide)
      have hs1 : st < 10000000000000000000000000000000000000121 := by rw [← hs, p40']; exact Int.emod_lt_of_pos _ (by decide)
      refine ⟨_, rfl, _, rfl, _, _, rfl, rfl, .inl ⟨by decide, by decide⟩, _, _, rfl, rfl, _, _, rfl, rfl, powW_ok2 (a := 140) (by rw [l140]; omega) (by decide) (by decide) (by decide) (by decide),
        .inl ⟨_, rfl, _, _, rfl, rfl, pw 38 (by decide) (by decide), _, _, rfl, rfl, _, _, rfl, rfl, (show (0:Int) < 10 ^ (38 : Int).toNat + 133 by rw [p38]; decide), ?_⟩⟩
      refine ⟨_, rfl, _, _, rfl, rfl, pw 9 (by decide) (by decide), _, _, rfl, rfl, wide_div (b := 200) (by rw [p9]; decide) (by rw [p9]; decide +kernel) (by decide) (by decide), .inl ⟨_, rfl, _, rfl, _, _, rfl, rfl, (show 0 < m by omega), ?_⟩⟩
      exact q _ _ (Int.emod_nonneg _ (by omega)) (Int.emod_lt_of_pos _ (by omega)) ⟨a, b, c + 1, upd_same, ha, hb0, hb, by omega, by omega⟩ .upd
end
end Pd

set_option maxHeartbeats 4000000
namespace Pd
open PySem PySem.Spec PyProof.Rows L2 SX
theorem chS : ("abcdefghijklmnopqrstuvwxyzABCDEFGHIJKLMNOPQRSTUVWXYZ0123456789 -._/'" : Str) = S CH := by decide +kernel
def spChars : Sp := fun vs H Q _ => vs = [] ∧ Q (.str (S CH)) H
/-- six signs, as a text -/
def PoolOk (l : List Nat) : Prop := l.length = 6 ∧ ∀ c ∈ l, c ∈ CH
def spPool : Sp := fun vs H Q _ => ∃ (j : Addr) (n : Nat), vs = [.ref j] ∧ JarAt H j n ∧ n + 6 < 1000000 ∧ ∀ l H', PoolOk l → JarAt H' j (n + 6) → Kp j H H' → Q (.str (S l)) H'
def spCharacter : Sp := fun vs H Q _ => ∃ (j : Addr) (n : Nat) (l : List Nat), vs = [.ref j, .str (S l)] ∧ JarAt H j n ∧ PoolOk l ∧ n + 2 < 1000000 ∧ ∀ c H', c ∈ CH → JarAt H' j (n + 2) → Kp j H H' → Q (.str (sg c)) H'
def spBstep : Sp := fun vs H Q _ => ∃ (j : Addr) (n : Nat) (l : List Nat), vs = [.ref j, .str (S l)] ∧ JarAt H j n ∧ PoolOk l ∧ n + 50 < 1000000 ∧
  ∀ p st H', H p = none → st.ok → StpAt H' p st → JarAt H' j (n + 50) → Kp j H H' → Q (.ref p) H'
section
variable {P : Program} {w : World} {K : PySem.W.Frag} {mg : Str → Option Value} {base : Heap}
theorem ok_chars {f : Addr} {fd : FuncData} (F : Fun K "_law_chars" "_law_chars" sLawChars f fd) : FnOk P w K mg base CX0 1 f fd [] spChars := by
  refine F.ok scLawChars (fun vs H Q E h => ?_) (fun cdv A outer s H vs Q E hr h => ?_)
  · obtain ⟨rfl, _⟩ := h
    rfl
  · obtain ⟨rfl, q⟩ := h
    refine ⟨_, pss_one (ps_ret pe_str), ?_⟩
    show Q (.str _) H
    rw [chS]
    exact q
/-- a def without arguments, by its name -/
theorem pe_cl0 {X : Cx} {k j : Nat} {x : Str} {sp : Sp} {p pos : Pos} (c : Cl X.prog X.w X.K X.mg X.base k x sp) (hr : Room j X.A) (hk : k ≤ j) (hg : Gl X x) (hdb : (x == ("__debug__" : Str)) = false := by decide) :
    PE X (.Call (.Name x p) [] [] pos) (tCall sp [] E0 tNil) := by
  obtain ⟨f, fd, ps, F, hm, kp, b⟩ := c.ex
  exact pe_call0 F (hr.mono hk) hg hm kp b .nil pass0 hdb
theorem CH_at {r : Int} (h0 : 0 ≤ r) (h1 : r < 68) : ∃ c ∈ CH, (S CH).cps[r.toNat]? = some c := by
  have hr : r.toNat < CH.length := by rw [CH_len]; omega
  exact ⟨CH[r.toNat], List.getElem_mem hr, S_at hr⟩
theorem ok_character {f : Addr} {fd : FuncData} (F : Fun K "_law_character" "_law_character" sLawCharacter f fd) (D : Cl P w K mg base 1 "_law_draw" spDraw) (C : Cl P w K mg base 1 "_law_chars" spChars) : FnT P w K mg base CX0 2 f spCharacter := by
  refine fnT_if F scLawCharacter rfl (fun kV doc pm an cdv ct us hl => match us, hl with | [_, _], _ => rfl) (fun vs H Q E h => ?_) (fun cdv A outer s H vs Q E hr h => ?_)
  · obtain ⟨j, n, l, rfl, _⟩ := h
    rfl
  · obtain ⟨j, n, l, rfl, hJ, ⟨hl, hc⟩, hn, q⟩ := h
    refine ⟨_, _, _, ptf_eqI (pe_cl D hr (by decide) rfl (pa_cons (pv 0) (pa_cons pe_int pa_nil))), peg_ix (pe_cl0 C hr (by decide) rfl) (pe_cl D hr (by decide) rfl (pa_cons (pv 0) (pa_cons pe_int pa_nil))) (fun _ _ => rfl),
      peg_ix (pv 1) (pe_cl D hr (by decide) rfl (pa_cons (pv 0) (pa_cons pe_int pa_nil))) (fun _ _ => rfl), ?_⟩
    refine ⟨_, rfl, j, 4, n, rfl, hJ, by omega, by decide, by decide, fun r H1 h0 h1 J1 k1 => ⟨r, rfl, ite2 (fun _ => ?_) (fun _ => ?_)⟩⟩
    · refine ⟨rfl, _, rfl, _, rfl, j, 68, _, rfl, J1, by omega, by decide, by decide, fun r2 H2 h02 h12 J2 k2 => ?_⟩
      obtain ⟨c, hcC, e⟩ := CH_at h02 h12
      exact ⟨r2, c, rfl, h02, by rw [S_len, CH_len]; omega, by rw [S_len]; decide, e, q _ _ hcC J2 (k1.trans k2)⟩
    · refine ⟨_, rfl, _, rfl, _, rfl, j, 6, _, rfl, J1, by omega, by decide, by decide, fun r2 H2 h02 h12 J2 k2 => ?_⟩
      have hr2 : r2.toNat < l.length := by omega
      exact ⟨r2, l[r2.toNat], rfl, h02, by rw [S_len]; omega, by rw [S_len]; omega, S_at hr2, q _ _ (hc _ (List.getElem_mem hr2)) J2 (k1.trans k2)⟩
theorem ok_bstep {f : Addr} {fd : FuncData} (F : Fun K "_law_step" "_law_step" sLawStep f fd) (T : Nms mg) (D : Cl P w K mg base 1 "_law_draw" spDraw) (G : ClT P w K mg base 2 "_law_character" spCharacter) : FnOk P w K mg base CX0 3 f fd ["well", "pool"] spBstep := by
  refine F.ok scLawStep (fun vs H Q E h => ?_) (fun cdv A outer s H vs Q E hr h => ?_)
  · obtain ⟨j, n, l, rfl, _⟩ := h
    rfl
  · obtain ⟨j, n, l, rfl, hJ, hG, hn, q⟩ := h
    have nd := scLawStep.nd
    refine ⟨_, pss_cons (ps_set (i := 2) nd rfl (Or.inl rfl) (pe_cl D hr (by decide) rfl (pa_cons (pv 0) (pa_cons pe_int pa_nil))))
      (pss_cons (ps_if (pt_cmpR op_eq (pv 2) pe_int (nomark _)) (pss_one (ps_ret (pe_tup (pa_cons pe_str pa_nil)))) pss_nil)
      (pss_cons (ps_if (pt_cmpR op_eq (pv 2) pe_int (nomark _)) (pss_one (ps_retSwap (pef_cl G hr (by decide) rfl (pa_cons (pv 0) (pa_cons (pv 1) pa_nil))) (pef_cl G hr (by decide) rfl (pa_cons (pv 0) (pa_cons (pv 1) pa_nil))))) pss_nil)
      (pss_cons (ps_if (pt_cmpR op_eq (pv 2) pe_int (nomark _))
        (pss_cons (ps_set (i := 3) nd rfl (Or.inl rfl) pe_str)
        (pss_cons (ps_for PassesOwn.never rfl (pi_range1 rfl T.range (pa_cons (pe_op op_add pe_int (pe_cl D hr (by decide) rfl (pa_cons (pv 0) (pa_cons pe_int pa_nil)))) pa_nil)) (pg_name (i := 4) nd rfl (Or.inl rfl))
          (pss_cons (ps_set (i := 5) nd rfl (Or.inl rfl) (PEF.pe (pef_cl G hr (by decide) rfl (pa_cons (pv 0) (pa_cons (pv 1) pa_nil)))))
          (pss_one (ps_if (pt_cmpR op_notIn_sign (pv 5) (pv 3) rfl) (pss_one (ps_set (i := 3) nd rfl (Or.inl rfl) (pe_op op_add_str (pv 3) (pv 5)))) pss_nil))))
        (pss_one (ps_ret (pe_tup (pa_cons pe_str (pa_cons (pv 3) pa_nil))))))) pss_nil)
      (pss_cons (ps_if (pt_cmpR op_lt (pv 2) pe_int (nomark _)) (pss_one (ps_ret (pe_tup (pa_cons (pe_ix ix_list (pe_lst (pa_cons pe_str (pa_cons pe_str pa_nil))) (pe_op op_sub (pv 2) pe_int) (fun _ _ => rfl)) (pa_cons (PEF.pe (pef_cl G hr (by decide) rfl (pa_cons (pv 0) (pa_cons (pv 1) pa_nil)))) pa_nil))))) pss_nil)
      (pss_one (ps_ret (pe_tup (pa_cons pe_str (pa_cons (pe_op op_add pe_int (pe_cl D hr (by decide) rfl (pa_cons (pv 0) (pa_cons pe_int pa_nil)))) pa_nil)))))))))
      , ?_⟩
    have hj0 := hJ.lst
    obtain ⟨xs0, hx0⟩ := id hj0
    refine ⟨_, rfl, j, 6, n, rfl, hJ, by omega, by decide, by decide, fun r H1 h0 h1 J1 k1 => ?_⟩
    have new : ∀ {H3 : Hp} {p : Addr} {o : HO}, Kp j H H3 → JarAt H3 j (n + 50) → H3 p = none → H p = none ∧ JarAt (L2.upd H3 p o) j (n + 50) ∧ Kp j H (L2.upd H3 p o) := fun {H3 p o} k J hp =>
      ⟨k.none hp hj0 J.lst, J.new hp, k.new hp⟩
    refine ⟨_, rfl, rfl, _, rfl, ite2 (fun _ => ?_) (fun e0 => ?_)⟩
    · refine ⟨by show 1 ≤ sizeLine; decide, fun p hp => ?_⟩
      obtain ⟨a1, a2, a3⟩ := new (o := .tup [V.str "lower"]) k1 (J1.le (by omega)) hp
      exact q p .low _ a1 trivial upd_same a2 a3
    refine ⟨_, rfl, rfl, _, rfl, ite2 (fun _ => ?_) (fun e1 => ?_)⟩
    · refine ⟨_, rfl, _, rfl, j, _, l, rfl, J1, hG, by omega, fun c H2 hc J2 k2 => ?_⟩
      refine ⟨_, rfl, _, rfl, j, _, l, rfl, J2, hG, by omega, fun d H3 hd J3 k3 => ?_⟩
      refine ⟨_, _, rfl, rfl, fun p H4 np sw hs4 => ?_⟩
      have k13 := (k1.trans k2).trans k3
      obtain ⟨xs3, hx3⟩ := J3.lst
      refine q p (.swap c d) H4 (k13.none np hj0 J3.lst) ⟨hc, hd⟩ sw ((J3.kp (hs4 j (ne_of_none hx3 np))).le (by omega)) fun b o hb hbo => ?_
      have b3 := k13 b o hb hbo
      exact (hs4 b (ne_of_none b3 np)).trans b3
    refine ⟨_, rfl, rfl, _, rfl, ite2 (fun _ => ?_) (fun e2 => ?_)⟩
    · refine ⟨_, rfl, j, 10, _, rfl, J1, by omega, by decide, by decide, fun r2 H2 h02 h12 J2 k2 => ⟨_, _, rfl, rfl, _, rfl, by omega, by omega, ?_⟩⟩
      refine for_range (lo := 0) (n := (1 + r2).toNat) (fun i σ H' => ∃ (cs : List Nat) (u v : Option V), σ = [some (.ref j), some (.str (S l)), some (.int r), some (.str (S cs)), u, v] ∧ (∀ c ∈ cs, c ∈ CH) ∧ cs.Nodup ∧ (0 < i → 1 ≤ cs.length) ∧ cs.length ≤ i ∧ JarAt H' j (n + 2 + 2 * i) ∧ Kp j H H')
        ⟨[], none, none, rfl, (fun _ h => nomatch h), List.nodup_nil, fun h => absurd h (by decide), Nat.le_refl _, J2, k1.trans k2⟩ ?_ ?_
      · rintro i σ H3 hi ⟨cs, u, v, rfl, hcs, hnd, hc1, hcl, J3, k3⟩
        refine ⟨_, rfl, _, rfl, j, _, l, rfl, J3, hG, by omega, fun d H4 hd J4 k4 => ?_⟩
        refine ⟨_, rfl, _, rfl, d, _, rfl, rfl, _, rfl, ?_⟩
        show if (!decide (d ∈ cs)) = true then _ else _
        by_cases hdl : d ∈ cs
        · rw [decide_eq_true hdl]
          exact iteF ⟨cs, _, _, rfl, hcs, hnd, fun _ => List.length_pos_of_mem hdl, by omega, J4.le (by omega), k3.trans k4⟩
        · rw [decide_eq_false hdl]
          refine iteT ⟨_, rfl, _, rfl, _, _, rfl, rfl, by rw [sg_S, S_len, S_len, sizeLine_eq]; simp; omega, ?_⟩
          rw [sg_S, S_cat]
          refine ⟨cs ++ [d], _, _, rfl, fun c hc => ?_, ?_, fun _ => by rw [List.length_append]; simp, by rw [List.length_append]; simp; omega, J4.le (by omega), k3.trans k4⟩
          · rcases List.mem_append.mp hc with h | h
            · exact hcs c h
            · rw [List.mem_singleton.mp h]; exact hd
          · rw [List.nodup_append]
            refine ⟨hnd, List.nodup_cons.mpr ⟨List.not_mem_nil, List.nodup_nil⟩, fun x hx y hy => ?_⟩
            rw [List.mem_singleton.mp hy]
            rintro rfl
            exact hdl hx
      · rintro σ H3 ⟨cs, u, v, rfl, hcs, hnd, hc1, hcl, J3, k3⟩
        refine ⟨_, rfl, by show 2 ≤ sizeLine; decide, fun p hp => ?_⟩
        obtain ⟨a1, a2, a3⟩ := new (o := .tup [V.str "drop", V.str (S cs)]) k3 (J3.le (by omega)) hp
        exact q p (.drop cs) _ a1 ⟨hc1 (by omega), by omega, hnd, hcs⟩ upd_same a2 a3
    have e0' : r ≠ 0 := fun e => e0 (decide_eq_true (congrArg V.int e))
    have e1' : r ≠ 1 := fun e => e1 (decide_eq_true (congrArg V.int e))
    have e2' : r ≠ 2 := fun e => e2 (decide_eq_true (congrArg V.int e))
    refine ⟨_, rfl, _, _, rfl, rfl, _, rfl, ite2 (fun h5 => ?_) (fun h5 => ?_)⟩
    · have h5 := of_decide_eq_true h5
      refine ⟨by show 2 ≤ sizeLine; decide, fun lx hlx => ?_⟩
      have na : (L2.upd H1 lx (.lst [V.str "lead", V.str "once"])) lx = some (.lst [V.str "lead", V.str "once"]) := upd_same
      have k2' : Kp j H (L2.upd H1 lx (.lst [V.str "lead", V.str "once"])) := k1.new hlx
      have J2' : JarAt (L2.upd H1 lx (.lst [V.str "lead", V.str "once"])) j (n + 1) := J1.new hlx
      obtain rfl | rfl : r = 3 ∨ r = 4 := by omega
      · refine ⟨_, rfl, _, _, rfl, rfl, lx, _, 0, V.str "lead", rfl, rfl, SqL.of na, rfl, _, rfl, _, rfl, j, _, l, rfl, J2', hG, by omega, fun c H3 hc J3 k3 => ⟨by show 2 ≤ sizeLine; decide, fun p hp => ?_⟩⟩
        obtain ⟨a1, a2, a3⟩ := new (o := .tup [V.str "lead", V.str (sg c)]) (k2'.trans k3) (J3.le (by omega)) hp
        exact q p (.lead c) _ a1 hc upd_same a2 a3
      · refine ⟨_, rfl, _, _, rfl, rfl, lx, _, 1, V.str "once", rfl, rfl, SqL.of na, rfl, _, rfl, _, rfl, j, _, l, rfl, J2', hG, by omega, fun c H3 hc J3 k3 => ⟨by show 2 ≤ sizeLine; decide, fun p hp => ?_⟩⟩
        obtain ⟨a1, a2, a3⟩ := new (o := .tup [V.str "once", V.str (sg c)]) (k2'.trans k3) (J3.le (by omega)) hp
        exact q p (.once c) _ a1 hc (.inl upd_same) a2 a3
    · refine ⟨_, rfl, j, 9, _, rfl, J1, by omega, by decide, by decide, fun r3 H3 h03 h13 J3 k3 => ⟨_, _, rfl, rfl, by show 2 ≤ sizeLine; decide, fun p hp => ?_⟩⟩
      obtain ⟨a1, a2, a3⟩ := new (o := .tup [V.str "cut", V.int (1 + r3)]) (k1.trans k3) (J3.le (by omega)) hp
      refine q p (.cut (1 + r3).toNat) _ a1 ⟨by omega, by omega⟩ ?_ a2 a3
      show (L2.upd H3 p _) p = some (.tup [V.str "cut", V.int (((1 + r3).toNat : Nat) : Int)])
      rw [show (((1 + r3).toNat : Nat) : Int) = 1 + r3 by omega]
      exact upd_same
end
end Pd

set_option maxHeartbeats 4000000
namespace Pd
open PySem PySem.Spec PyProof.Rows L2 SX
/-- the module's constants -/
structure Cst (mg : Str → Option Value) : Prop where
  chars : ∃ t, mg "CHARACTERS" = some (.str "abcdefghijklmnopqrstuvwxyzABCDEFGHIJKLMNOPQRSTUVWXYZ0123456789 -._/'" t)
  most : ∃ t, mg "LONGEST_TEXT" = some (.int 60 t)
  drop : ∃ t, mg "MOST_DROPPED" = some (.int 10 t)
  cut : ∃ t, mg "LONGEST_CUT" = some (.int 9 t)
  steps : ∃ t, mg "MOST_STEPS" = some (.int 6 t)
theorem chars_S : ("abcdefghijklmnopqrstuvwxyzABCDEFGHIJKLMNOPQRSTUVWXYZ0123456789 -._/'" : Str) = S CH := by decide +kernel
/-- a comprehension over a text that gives a value for each sign -/
theorem lc_vals {l : List Nat} {g : TG} {te : TE} {vs : List Nat} {σ : L2.St} {H1 : Hp} {D : Addr} {Qd : Hp → Prop} (f : Nat → V) (hl : l.length ≤ 1000) (hD : H1 D = none)
    (hs : ∀ c H acc (Nx : Hp → Prop), c ∈ l → Ext H1 H → H D = some (.lst acc) → acc.length < sizeLine →
      (∀ H', H' D = some (.lst (acc ++ [f c])) → Ext H1 H' → Nx H') →
      g (.str (sg c)) (wipe σ vs) H fun σ2 H2 => wipe σ2 vs = wipe σ vs ∧ tYes σ2 H2 fun b H3 =>
        if b = true then te σ2 H3 fun y H4 => ∃ acc', H4 D = some (.lst acc') ∧ acc'.length < sizeLine ∧ Nx (upd H4 D (.lst (acc' ++ [y]))) else Nx H3)
    (hd : ∀ H, H D = some (.lst (l.map f)) → Ext H1 H → Qd H) :
    ∃ W : Nat → Nat → Hp → Prop, (∃ m, W 0 m (upd H1 D (.lst []))) ∧ ∀ i m H, W i m H →
      ((Its (S l)).stop i H ∧ Qd H) ∨ ((Its (S l)).go i H ∧ ∃ Nx : Hp → Prop, (∀ H', Nx H' → ∃ m', m' < m ∧ W (i + 1) m' H') ∧ ∀ x H', (Its (S l)).yld i H x H' → g x (wipe σ vs) H' fun σ2 H2 => wipe σ2 vs = wipe σ vs ∧ tYes σ2 H2 fun b H3 =>
        if b = true then te σ2 H3 fun y H4 => ∃ acc, H4 D = some (.lst acc) ∧ acc.length < sizeLine ∧ Nx (upd H4 D (.lst (acc ++ [y]))) else Nx H3) := by
  have hsz : (S l).cps.size = l.length := by simp [S]
  have key := lc_it (g := g) (tt := tYes) (te := te) (vs := vs) (σ := σ) (H1 := H1) (D := D) (Qd := Qd) (walk_str (z := S l))
    (fun i H => H D = some (.lst ((l.take i).map f)) ∧ Ext H1 H) ⟨by rw [List.take_zero]; exact upd_same, Ext.refl.new hD⟩ (fun _ _ _ _ => trivial) ?_ ?_
  · exact key
  · rintro i x H H' hi ⟨h1, h2⟩ ⟨rfl, c, hc, rfl⟩
    have hc' : l[i]? = some c := by simpa [S] using hc
    refine hs c H' _ (fun H' => H' D = some (.lst ((l.take (i + 1)).map f)) ∧ Ext H1 H') (List.mem_of_getElem? hc') h2 h1 (by rw [List.length_map, sizeLine_eq]; have := List.length_take_le' i l; omega) fun H'' e1 e2 => ⟨?_, e2⟩
    rw [e1, List.take_succ, hc', List.map_append]
    rfl
  · rintro H ⟨h1, h2⟩
    rw [hsz, List.take_length] at h1
    exact hd H h1 h2
def isChr : List Nat → Bool
  | [c] => decide (c ∈ CH)
  | _ => false
def spIsChar : Sp := fun vs H Q _ => ∃ l : List Nat, vs = [.str (S l)] ∧ l.length ≤ 1000 ∧ Q (.bl (isChr l)) H
def goodB (l : List Nat) : Bool := decide (l.length ≤ 60) && l.all (fun c => decide (c ∈ CH))
theorem goodB_of {l : List Nat} (h : Good l) : goodB l = true := by
  unfold goodB
  rw [decide_eq_true h.2, Bool.true_and, List.all_eq_true]
  exact fun c hc => decide_eq_true (h.1 c hc)
theorem goodB_iff {l : List Nat} : goodB l = true ↔ Good l := by
  constructor
  · intro h
    unfold goodB at h
    rw [Bool.and_eq_true, List.all_eq_true] at h
    exact ⟨fun c hc => of_decide_eq_true (h.2 c hc), of_decide_eq_true h.1⟩
  · exact goodB_of
def spIsText : Sp := fun vs H Q _ => ∃ l : List Nat, vs = [.str (S l)] ∧ l.length ≤ 1000 ∧ ∀ H', Ext H H' → Q (.bl (goodB l)) H'
def spIsInt : Sp := fun vs H Q _ => ∃ n : Int, vs = [.int n] ∧ Q (.bl true) H
section
variable {P : Program} {w : World} {K : PySem.W.Frag} {mg : Str → Option Value} {base : Heap}
theorem ok_isChar {f : Addr} {fd : FuncData} (F : Fun K "is_character" "is_character" sIsCharacter f fd) (T : Nms mg) (C : Cst mg) : FnOk P w K mg base CX0 1 f fd ["value"] spIsChar := by
  refine F.ok scIsCharacter (fun vs H Q E h => ?_) (fun cdv A outer s H vs Q E hr h => ?_)
  · obtain ⟨l, rfl, _⟩ := h
    rfl
  · obtain ⟨l, rfl, hl, q⟩ := h
    have nd := scIsCharacter.nd
    obtain ⟨tc, hc⟩ := C.chars
    refine ⟨_, pss_one (ps_ret (pe_and (pe_callB call_isi (by rfl) T.isi (by decide +kernel) (pa_cons (pv 0) (pa_cons (pe_bltn (v := .ty "str") (by rfl) T.str (by decide +kernel) rfl) pa_nil)))
      (pe_and (pe_cmpR op_eq (pe_callB call_len_str (by rfl) T.len PySem.boot_len (pa_cons (pv 0) pa_nil)) pe_int (nomark _)) (pe_one (pe_cmpR op_in_sign (pv 0) (pe_glob (v := .str _) rfl hc ⟨_, rfl⟩) rfl))))), ?_⟩
    refine ⟨_, rfl, _, _, _, _, true, rfl, .ty "str", .base (.str _), kit_ty (by decide +kernel), true, rfl, iteT ?_⟩
    refine ⟨_, rfl, _, rfl, by rw [S_len, sizeLine_eq]; omega, rfl, _, rfl, ?_⟩
    rw [S_len]
    match l, hl, q with
    | [], _, q => exact q
    | [c], _, q =>
      refine iteT ⟨_, rfl, c, _, rfl, rfl, ?_⟩
      rw [chars_S]
      exact q
    | a :: b :: r, _, q =>
      have e : decide (V.int (((a :: b :: r).length : Nat) : Int) = V.int 1) = false := decide_eq_false (by
        intro h; injection h with h; rw [List.length_cons, List.length_cons] at h; omega)
      rw [e]
      exact iteF q
theorem ok_isText {f : Addr} {fd : FuncData} (F : Fun K "is_text" "is_text" sIsText f fd) (T : Nms mg) (C : Cst mg) : FnOk P w K mg base CX0 1 f fd ["value"] spIsText := by
  refine F.ok scIsText (fun vs H Q E h => ?_) (fun cdv A outer s H vs Q E hr h => ?_)
  · obtain ⟨l, rfl, _⟩ := h
    rfl
  · obtain ⟨l, rfl, hl, q⟩ := h
    have nd := scIsText.nd
    obtain ⟨tc, hc⟩ := C.chars
    obtain ⟨tm, hm⟩ := C.most
    refine ⟨_, pss_cons (ps_if (PW.pt (pw_or (pt_not (pt_val (pe_callB call_isi (by rfl) T.isi (by decide +kernel) (pa_cons (pv 0) (pa_cons (pe_bltn (v := .ty "str") (by rfl) T.str (by decide +kernel) rfl) pa_nil)))))
        (pw_or1 (pt_cmpR op_gt (pe_callB call_len_str (by rfl) T.len PySem.boot_len (pa_cons (pv 0) pa_nil)) (pe_glob (v := .int 60) rfl hm ⟨_, rfl⟩) (nomark _))))) (pss_one (ps_ret pe_bl)) pss_nil)
      (pss_one (ps_ret (pe_callB (cr_all rfl) (by rfl) T.all (by decide +kernel) (pa_cons (pe_lc (own := [("character", 1)]) (g := gName 1) (tt := tYes) rfl nd (pi_str (pv 0)) (blkOk_by (N := ["value", "character"]) (sc := defScope sIsText) (by decide +kernel)) (fun _ _ _ _ _ => pg_name (i := 1) nd rfl (Or.inl rfl)) (fun _ _ _ _ _ => pts_nil)
          (fun _ _ _ _ _ => pe_cmpR op_in_sign (pv 1) (pe_glob (v := .str _) rfl hc ⟨_, rfl⟩) rfl)) pa_nil)))), ?_⟩
    refine ⟨_, rfl, _, _, _, _, true, rfl, .ty "str", .base (.str _), kit_ty (by decide +kernel), true, rfl, ?_⟩
    refine iteF ⟨_, rfl, _, rfl, by rw [S_len, sizeLine_eq]; omega, _, _, rfl, rfl, _, rfl, ?_⟩
    rw [S_len]
    by_cases h60 : l.length ≤ 60
    · rw [decide_eq_false (show ¬ ((l.length : Nat) : Int) > 60 by omega)]
      refine iteF ⟨_, rfl, _, rfl, fun D hD => lc_vals (fun c => V.bl (decide (c ∈ CH))) hl hD (fun c H2 acc Nx hc' k2 hacc hal nx => ⟨rfl, _, rfl, c, _, rfl, rfl, acc, hacc, hal, nx _ ?_ (k2.new hD)⟩) fun H2 h2 k2 => ?_⟩
      · rw [chars_S]; exact upd_same
      · refine ⟨D, l.map (fun c => decide (c ∈ CH)), rfl, SqL.of ?_, ?_⟩
        · rw [List.map_map]; exact h2
        · have e : (l.map (fun c => decide (c ∈ CH))).all id = goodB l := by
            unfold goodB
            rw [decide_eq_true h60, Bool.true_and, List.all_map]; rfl
          rw [e]
          exact q H2 k2
    · rw [decide_eq_true (show ((l.length : Nat) : Int) > 60 by omega)]
      refine iteT ?_
      have e : goodB l = false := by unfold goodB; rw [decide_eq_false h60, Bool.false_and]
      rw [e] at q
      exact q H .refl
theorem ok_isInt {f : Addr} {fd : FuncData} (F : Fun K "is_integer" "is_integer" sIsInteger f fd) (T : Nms mg) : FnOk P w K mg base CX0 1 f fd ["value"] spIsInt := by
  refine F.ok scIsInteger (fun vs H Q E h => ?_) (fun cdv A outer s H vs Q E hr h => ?_)
  · obtain ⟨l, rfl, _⟩ := h
    rfl
  · obtain ⟨n, rfl, q⟩ := h
    refine ⟨_, pss_one (ps_ret (pe_and (pe_callB call_isi (by rfl) T.isi (by decide +kernel) (pa_cons (pv 0) (pa_cons (pe_bltn (v := .ty "int") (by rfl) T.int (by decide +kernel) rfl) pa_nil)))
      (pe_one (pe_not (pe_callB call_isi (by rfl) T.isi (by decide +kernel) (pa_cons (pv 0) (pa_cons (pe_bltn (v := .ty "bool") (by rfl) T.bool (by decide +kernel) rfl) pa_nil))))))), ?_⟩
    refine ⟨_, rfl, _, _, _, _, true, rfl, .ty "int", .base (.int n), kit_ty (by decide +kernel), true, rfl, iteT ?_⟩
    exact ⟨_, rfl, _, _, _, _, false, rfl, .ty "bool", .base (.int n), kit_ty (by decide +kernel), false, rfl, q⟩
end
end Pd

set_option maxHeartbeats 4000000
namespace Pd
open PySem PySem.Spec PyProof.Rows L2 SX
def spIsChoice : Sp := fun vs H Q _ => ∃ cs : List Nat, vs = [.str (S cs)] ∧ Stp.ok (.drop cs) ∧ ∀ H', Ext H H' → Q (.bl true) H'
def spIsStep : Sp := fun vs H Q _ => ∃ (p : Addr) (st : Stp), vs = [.ref p] ∧ StpAt H p st ∧ st.ok ∧ ∀ H', Ext H H' → Q (.bl true) H'
theorem StpAt.ty {K : PySem.W.Frag} {H : Hp} {p : Addr} {st : Stp} (h : StpAt H p st) : TyX K H (.ref p) (.type "tuple") := by
  cases st with
  | swap a b =>
    obtain ⟨n, t0, t, u, e, _⟩ := h
    exact .fTuple e
  | low => exact .base (.tup h)
  | drop _ => exact .base (.tup h)
  | lead _ => exact .base (.tup h)
  | once _ =>
    rcases h with h | ⟨o, h⟩
    · exact .base (.tup h)
    · exact .fTuple h
  | cut _ => exact .base (.tup h)
theorem isChr_one {c : Nat} (h : c ∈ CH) : isChr [c] = true := decide_eq_true h
section
variable {P : Program} {w : World} {K : PySem.W.Frag} {mg : Str → Option Value} {base : Heap}
theorem ok_isChoice {f : Addr} {fd : FuncData} (F : Fun K "_is_choice" "_is_choice" sIsChoice f fd) (T : Nms mg) (C : Cst mg) (G : Cl P w K mg base 1 "is_character" spIsChar) : FnOk P w K mg base CX0 2 f fd ["value"] spIsChoice := by
  refine F.ok scIsChoice (fun vs H Q E h => ?_) (fun cdv A outer s H vs Q E hr h => ?_)
  · obtain ⟨l, rfl, _⟩ := h
    rfl
  · obtain ⟨cs, rfl, ⟨h1, h2, h3, h4⟩, q⟩ := h
    have nd := scIsChoice.nd
    obtain ⟨td, hd⟩ := C.drop
    refine ⟨_, pss_cons (ps_if (PW.pt (pw_or (pt_not (pt_val (pe_callB call_isi (by rfl) T.isi (by decide +kernel) (pa_cons (pv 0) (pa_cons (pe_bltn (v := .ty "str") (by rfl) T.str (by decide +kernel) rfl) pa_nil)))))
        (pw_or1 (pt_not (pt_chain op_le op_le pe_int (pe_callB call_len_str (by rfl) T.len PySem.boot_len (pa_cons (pv 0) pa_nil)) (pe_glob (v := .int 10) rfl hd ⟨_, rfl⟩)))))) (pss_one (ps_ret pe_bl)) pss_nil)
      (pss_one (ps_ret (pe_and (pe_cmpR op_eq (pe_lenSetS rfl rfl T.len rfl T.set (pv 0)) (pe_callB call_len_str (by rfl) T.len PySem.boot_len (pa_cons (pv 0) pa_nil)) (nomark _))
        (pe_one (pe_callB (cr_all rfl) (by rfl) T.all (by decide +kernel) (pa_cons (pe_lc (own := [("character", 1)]) (g := gName 1) (tt := tYes) rfl nd (pi_str (pv 0)) (blkOk_by (N := ["value", "character"]) (sc := defScope sIsChoice) (by decide +kernel)) (fun _ _ _ _ _ => pg_name (i := 1) nd rfl (Or.inl rfl)) (fun _ _ _ _ _ => pts_nil)
          (fun _ _ _ _ _ => pe_cl G hr (by decide) rfl (pa_cons (pv 1) pa_nil))) pa_nil)))))), ?_⟩
    refine ⟨_, rfl, _, _, _, _, true, rfl, .ty "str", .base (.str _), kit_ty (by decide +kernel), true, rfl, ?_⟩
    refine iteF ⟨_, rfl, _, rfl, by rw [S_len, sizeLine_eq]; omega, _, _, rfl, rfl, _, rfl, ?_⟩
    rw [S_len, decide_eq_true (show (1 : Int) ≤ (cs.length : Nat) by omega)]
    refine iteT ⟨_, _, rfl, rfl, _, rfl, ?_⟩
    rw [decide_eq_true (show ((cs.length : Nat) : Int) ≤ 10 by omega)]
    refine iteF ?_
    refine ⟨_, rfl, S cs, rfl, ?_, h3, by show cs.length ≤ 1000; omega, _, rfl, _, rfl, by rw [S_len, sizeLine_eq]; omega, rfl, _, rfl, ?_⟩
    · rw [← Array.all_toList, List.all_eq_true]
      exact fun c hc => decide_eq_true (CH_lt c (h4 c hc))
    rw [S_len, decide_eq_true rfl]
    refine iteT ⟨_, rfl, _, rfl, fun D hD => lc_vals (fun c => V.bl (isChr [c])) (by omega) hD (fun c H2 acc Nx hc' k2 hacc hal nx => ⟨rfl, _, rfl, [c], rfl, by simp, acc, hacc, hal, nx _ upd_same (k2.new hD)⟩) fun H2 e2 k2 => ?_⟩
    refine ⟨D, cs.map (fun c => isChr [c]), rfl, SqL.of (by rw [List.map_map]; exact e2), ?_⟩
    have e : (cs.map (fun c => isChr [c])).all id = true := by
      rw [List.all_map, List.all_eq_true]
      exact fun c hc => isChr_one (h4 c hc)
    rw [e]
    exact q H2 k2
theorem ok_isStep {f : Addr} {fd : FuncData} (F : Fun K "is_step" "is_step" sIsStep f fd) (T : Nms mg) (C : Cst mg) (G : Cl P w K mg base 1 "is_character" spIsChar) (G2 : Cl P w K mg base 2 "_is_choice" spIsChoice) (G3 : Cl P w K mg base 1 "is_integer" spIsInt) : FnOk P w K mg base CX0 3 f fd ["value"] spIsStep := by
  refine F.ok scIsStep (fun vs H Q E h => ?_) (fun cdv A outer s H vs Q E hr h => ?_)
  · obtain ⟨p, st, rfl, _⟩ := h
    rfl
  · obtain ⟨p, st, rfl, hst, hok, q⟩ := h
    have nd := scIsStep.nd
    obtain ⟨tc, hc⟩ := C.cut
    refine ⟨_, pss_cons (ps_if (PW.pt (pw_or (pt_not (pt_val (pe_callB call_isi (by rfl) T.isi (by decide +kernel) (pa_cons (pv 0) (pa_cons (pe_bltn (v := .ty "tuple") (by rfl) T.tuple (by decide +kernel) rfl) pa_nil)))))
        (pw_or (pt_cmpR op_eq (pe_callB call_len_seq (by rfl) T.len PySem.boot_len (pa_cons (pv 0) pa_nil)) pe_int (nomark _))
        (pw_or1 (pt_not (pt_val (pe_callB call_isi (by rfl) T.isi (by decide +kernel) (pa_cons (pe_ix ix_tup (pv 0) pe_int (fun _ _ => rfl)) (pa_cons (pe_bltn (v := .ty "str") (by rfl) T.str (by decide +kernel) rfl) pa_nil))))))))) (pss_one (ps_ret pe_bl)) pss_nil)
      (pss_cons (ps_set (i := 1) nd rfl (Or.inl rfl) (pe_ix ix_tup (pv 0) pe_int (fun _ _ => rfl)))
      (pss_cons (ps_if (pt_cmpR op_eq (pv 1) pe_str (nomark _)) (pss_one (ps_ret (pe_cmpR op_eq (pe_callB call_len_seq (by rfl) T.len PySem.boot_len (pa_cons (pv 0) pa_nil)) pe_int (nomark _)))) pss_nil)
      (pss_cons (ps_if (pt_cmpR op_eq (pv 1) pe_str (nomark _)) (pss_one (ps_ret (pe_and (pe_cmpR op_eq (pe_callB call_len_seq (by rfl) T.len PySem.boot_len (pa_cons (pv 0) pa_nil)) pe_int (nomark _))
        (pe_and (pe_cl G hr (by decide) rfl (pa_cons (pe_ix ix_tup (pv 0) pe_int (fun _ _ => rfl)) pa_nil)) (pe_one (pe_cl G hr (by decide) rfl (pa_cons (pe_ix ix_tup (pv 0) pe_int (fun _ _ => rfl)) pa_nil))))))) pss_nil)
      (pss_cons (ps_if (pt_cmpR op_ne (pe_callB call_len_seq (by rfl) T.len PySem.boot_len (pa_cons (pv 0) pa_nil)) pe_int (nomark _)) (pss_one (ps_ret pe_bl)) pss_nil)
      (pss_cons (ps_if (pt_cmpR op_eq (pv 1) pe_str (nomark _)) (pss_one (ps_ret (pe_cl G2 hr (by decide) rfl (pa_cons (pe_ix ix_tup (pv 0) pe_int (fun _ _ => rfl)) pa_nil)))) pss_nil)
      (pss_cons (ps_if (PW.pt (pw_or (pt_cmpR op_eq (pv 1) pe_str (nomark _)) (pw_or1 (pt_cmpR op_eq (pv 1) pe_str (nomark _))))) (pss_one (ps_ret (pe_cl G hr (by decide) rfl (pa_cons (pe_ix ix_tup (pv 0) pe_int (fun _ _ => rfl)) pa_nil)))) pss_nil)
      (pss_one (ps_ret (pe_and (pe_cmpR op_eq (pv 1) pe_str (nomark _)) (pe_and (pe_cl G3 hr (by decide) rfl (pa_cons (pe_ix ix_tup (pv 0) pe_int (fun _ _ => rfl)) pa_nil))
        (pe_one (pe_chain op_le op_le pe_int (pe_ix ix_tup (pv 0) pe_int (fun _ _ => rfl)) (pe_glob (v := .int 9) rfl hc ⟨_, rfl⟩))))))))))))), ?_⟩
    have hs : ∀ {K : PySem.W.Frag}, SqT K H p (stpVals st) := hst.seq
    have e0 : decide (V.int (((stpVals st).length : Nat) : Int) = V.int 0) = false := by cases st <;> rfl
    refine ⟨_, rfl, _, _, _, _, true, rfl, .ty "tuple", hst.ty, kit_ty (by decide +kernel), true, rfl, ?_⟩
    refine iteF ⟨_, rfl, p, _, rfl, .inr hs, rfl, _, rfl, ?_⟩
    rw [e0]
    refine iteF ⟨_, rfl, p, _, 0, _, rfl, rfl, hs, word_at st, _, _, _, _, true, rfl, .ty "str", .base (.str _), kit_ty (by decide +kernel), true, rfl, ?_⟩
    refine iteF ⟨_, rfl, p, _, 0, _, rfl, rfl, hs, word_at st, ?_⟩
    cases st with
    | low =>
      refine ⟨_, rfl, rfl, _, rfl, ite2 (fun _ => ?_) (fun h => absurd (decide_eq_true rfl) h)⟩
      exact ⟨_, rfl, p, _, rfl, .inr hs, rfl, q H .refl⟩
    | swap a b =>
      refine ⟨_, rfl, rfl, _, rfl, ite2 (fun h => absurd (show V.str "swap" = V.str "lower" from of_decide_eq_true h) (by decide +kernel)) (fun _ => ?_)⟩
      refine ⟨_, rfl, rfl, _, rfl, ite2 (fun _ => ?_) (fun h => absurd (decide_eq_true rfl) h)⟩
      refine ⟨_, rfl, p, _, rfl, .inr hs, rfl, true, rfl, iteT ⟨_, rfl, p, _, 1, .str (sg a), rfl, rfl, hs, rfl, [a], rfl, by simp, true, ?_, iteT ⟨_, rfl, p, _, 2, .str (sg b), rfl, rfl, hs, rfl, [b], rfl, by simp, ?_⟩⟩⟩
      · rw [isChr_one hok.1]
      · rw [isChr_one hok.2]; exact q H .refl
    | drop cs =>
      refine ⟨_, rfl, rfl, _, rfl, ite2 (fun h => absurd (show V.str "drop" = V.str "lower" from of_decide_eq_true h) (by decide +kernel)) (fun _ => ?_)⟩
      refine ⟨_, rfl, rfl, _, rfl, ite2 (fun h => absurd (show V.str "drop" = V.str "swap" from of_decide_eq_true h) (by decide +kernel)) (fun _ => ?_)⟩
      refine ⟨_, rfl, p, _, rfl, .inr hs, rfl, _, rfl, iteF ?_⟩
      refine ⟨_, rfl, rfl, _, rfl, ite2 (fun _ => ?_) (fun h => absurd (decide_eq_true rfl) h)⟩
      exact ⟨_, rfl, p, _, 1, .str (S cs), rfl, rfl, hs, rfl, cs, rfl, hok, q⟩
    | lead a =>
      refine ⟨_, rfl, rfl, _, rfl, ite2 (fun h => absurd (show V.str "lead" = V.str "lower" from of_decide_eq_true h) (by decide +kernel)) (fun _ => ?_)⟩
      refine ⟨_, rfl, rfl, _, rfl, ite2 (fun h => absurd (show V.str "lead" = V.str "swap" from of_decide_eq_true h) (by decide +kernel)) (fun _ => ?_)⟩
      refine ⟨_, rfl, p, _, rfl, .inr hs, rfl, _, rfl, iteF ?_⟩
      refine ⟨_, rfl, rfl, _, rfl, ite2 (fun h => absurd (show V.str "lead" = V.str "drop" from of_decide_eq_true h) (by decide +kernel)) (fun _ => ?_)⟩
      refine ⟨_, rfl, rfl, _, rfl, iteT ?_⟩
      refine ⟨_, rfl, p, _, 1, .str (sg a), rfl, rfl, hs, rfl, [a], rfl, by simp, ?_⟩
      rw [isChr_one hok]; exact q H .refl
    | once a =>
      refine ⟨_, rfl, rfl, _, rfl, ite2 (fun h => absurd (show V.str "once" = V.str "lower" from of_decide_eq_true h) (by decide +kernel)) (fun _ => ?_)⟩
      refine ⟨_, rfl, rfl, _, rfl, ite2 (fun h => absurd (show V.str "once" = V.str "swap" from of_decide_eq_true h) (by decide +kernel)) (fun _ => ?_)⟩
      refine ⟨_, rfl, p, _, rfl, .inr hs, rfl, _, rfl, iteF ?_⟩
      refine ⟨_, rfl, rfl, _, rfl, ite2 (fun h => absurd (show V.str "once" = V.str "drop" from of_decide_eq_true h) (by decide +kernel)) (fun _ => ?_)⟩
      refine ⟨_, rfl, rfl, _, rfl, ite2 (fun h => absurd (show V.str "once" = V.str "lead" from of_decide_eq_true h) (by decide +kernel)) (fun _ => ?_)⟩
      refine ⟨_, rfl, rfl, _, rfl, iteT ?_⟩
      refine ⟨_, rfl, p, _, 1, .str (sg a), rfl, rfl, hs, rfl, [a], rfl, by simp, ?_⟩
      rw [isChr_one hok]; exact q H .refl
    | cut n =>
      refine ⟨_, rfl, rfl, _, rfl, ite2 (fun h => absurd (show V.str "cut" = V.str "lower" from of_decide_eq_true h) (by decide +kernel)) (fun _ => ?_)⟩
      refine ⟨_, rfl, rfl, _, rfl, ite2 (fun h => absurd (show V.str "cut" = V.str "swap" from of_decide_eq_true h) (by decide +kernel)) (fun _ => ?_)⟩
      refine ⟨_, rfl, p, _, rfl, .inr hs, rfl, _, rfl, iteF ?_⟩
      refine ⟨_, rfl, rfl, _, rfl, ite2 (fun h => absurd (show V.str "cut" = V.str "drop" from of_decide_eq_true h) (by decide +kernel)) (fun _ => ?_)⟩
      refine ⟨_, rfl, rfl, _, rfl, ite2 (fun h => absurd (show V.str "cut" = V.str "lead" from of_decide_eq_true h) (by decide +kernel)) (fun _ => ?_)⟩
      refine ⟨_, rfl, rfl, _, rfl, ite2 (fun h => absurd (show V.str "cut" = V.str "once" from of_decide_eq_true h) (by decide +kernel)) (fun _ => ?_)⟩
      refine ⟨_, rfl, rfl, true, rfl, iteT ⟨_, rfl, p, _, 1, .int (n : Nat), rfl, rfl, hs, rfl, _, rfl, true, rfl, iteT ?_⟩⟩
      have e1 : decide ((1 : Int) ≤ (n : Nat)) = true := decide_eq_true (by have := hok.1; omega)
      have e2 : decide (((n : Nat) : Int) ≤ 9) = true := decide_eq_true (by have := hok.2; omega)
      refine ⟨_, rfl, p, _, 1, .int (n : Nat), rfl, rfl, hs, rfl, _, _, rfl, rfl, true, ?_, iteT ⟨_, _, rfl, rfl, ?_⟩⟩
      · exact congrArg V.bl e1
      · show Q (V.bl (decide (((n : Nat) : Int) ≤ 9))) H
        rw [e2]; exact q H .refl
end
end Pd

set_option maxHeartbeats 4000000
namespace Pd
open PySem PySem.Spec PyProof.Rows L2 SX
/-! ### text.replace(step[1], step[2]), step any name of the def -/
theorem item_rawV {X : Cx} {pins : List (Addr × Obj)} {σ : L2.St} {H : Hp} {s : Shared} {i : Nat} {x : Str} {p : Addr} {its : Array Value} {k : Int} {j : Nat} {w : Value} {p1 cp pos : Pos} {Q : Value → Shared → Prop} (hN : X.N[i]? = some x)
    (hv : Vis X.env.scope x) (I : Inv X pins σ H s) (hσ : σ[i]? = some (some (.ref p))) (ht : ∀ s', Inv X pins σ H s' → s'.heap.IsTuple p its) (h0 : 0 ≤ k) (h1 : k < its.size) (hz : its.size ≤ 1000) (hw : its[k.toNat]? = some w) (fin : ∀ s', Inv X pins σ H s' → Q w s')
    (hs : PlainIx (.Constant (.int k) j cp)) (hd : (x == ("__debug__" : Str)) = false := by decide) (hcd : (x == ("__classdict__" : Str)) = false := by decide) :
    wpAny (model X.prog X.w) X.A (eval (.Subscript (.Name x p1) (.Constant (.int k) j cp) pos) X.env) Q X.xe s := by
  refine Subscript_ (thn ((pe_var (pos := p1) hN hv hd hcd).run pins s σ H (fun v H1 => v = .ref p ∧ H1 = H) I ⟨.ref p, hσ, rfl, rfl⟩) ?_)
  rintro u s1 ⟨v, H1, I1, r1, e1, e2⟩
  subst e1 e2
  obtain rfl : u = Value.ref p := r1
  refine wpAny_Constant_int ?_
  have I2 := I1.tok (s1.toks + 1)
  exact subscriptTail_builtinR (x := w) (ht _ I2).typeIs slot_tuple_getitem.lookup
    (getItem_tuple (j := k.toNat) (Q := fun r s' => r = w ∧ Q r s') (ht _ I2) (by omega) (by omega) (by rw [seqIndex_of h0 h1]) hw ⟨rfl, fin _ I2⟩) (hs _ _)
/-- no token is booked, by what K tells of the statics -/
theorem nb_of {K : PySem.W.Frag} {mg : Str → Option Value} {base : Heap} (M : L2.Mod K mg base) (z : PySem.W.nsIn K cStatics sharingNotToldKey = some none) : NoneBooked base := by
  obtain ⟨mc, hn, _⟩ := M.nolimit
  refine ⟨mc, hn, ?_⟩
  obtain ⟨o, es, ep, e1, e2, _, e3⟩ := hn
  rw [← e3]
  unfold PySem.W.nsIn at z
  cases hl : K.lookup cStatics with
  | none => rw [hl] at z; cases z
  | some ob =>
    have e4 := M.kin _ _ hl
    rw [e1] at e4
    injection e4 with e4
    subst e4
    obtain ⟨cls, dict, data, sl⟩ := o
    replace e2 : data = .dict es ep := e2
    subst e2
    rw [hl] at z
    cases hf : es.toList.find? (·.key.isStr sharingNotToldKey) with
    | some en => simp [hf] at z
    | none =>
      show nsFind es sharingNotToldKey = none
      unfold nsFind findBy
      rw [← Array.find?_toList, hf]
      rfl
theorem pe_replV {X : Cx} {i : Nat} {kx : Str} {o : Expr} {to : TE} {j0 j1 : Nat} {p2 p3 c0 c1 q0 q1 apos pos : Pos} (nb : PySem.W.nsIn X.K cStatics sharingNotToldKey = some none) (ho : PE X o to) (hN : X.N[i]? = some kx) (hv : Vis X.env.scope kx) (hd : (kx == ("__debug__" : Str)) = false := by decide)
    (hcd : (kx == ("__classdict__" : Str)) = false := by decide)
    (hst : starEach [.Subscript (.Name kx p2) (.Constant (.int 1) j0 c0) q0, .Subscript (.Name kx p3) (.Constant (.int 2) j1 c1) q1] X.env =
      [(false, eval (.Subscript (.Name kx p2) (.Constant (.int 1) j0 c0) q0) X.env), (false, eval (.Subscript (.Name kx p3) (.Constant (.int 2) j1 c1) q1) X.env)] := by rfl)
    (hbase : attributeBase o "replace" X.env (eval o X.env) = eval o X.env := by rfl) (hline : (apos.endLine == pos.line) = true := by rfl) :
    PE X (.Call (.Attribute o "replace" apos) [.Subscript (.Name kx p2) (.Constant (.int 1) j0 c0) q0, .Subscript (.Name kx p3) (.Constant (.int 2) j1 c1) q1] [] pos) (tRepl to i) := by
  constructor
  intro pins s σ H Q I h
  refine PySem.Call_method2 hbase hst hline (thn (ho.run pins s σ H _ I h) ?_)
  rintro v s1 ⟨y, H1, I1, r1, x, p, a, b, rfl, hσ, ⟨n, t0, t, u, hp, ht, hu, htu⟩, hz, q⟩
  obtain ⟨tx, rfl⟩ := r1
  have tup : ∀ s', Inv X pins σ H1 s' → s'.heap.IsTuple p #[.str "swap" t0, .str a t, .str b u] := fun s' I' => ⟨_, (I'.hok p _ hp).1, rfl, n, rfl⟩
  refine ⟨"str", _, F.plainAttrs_str, F.slot_str_replace, F.type_str_replace, typeIs_str _ _ _, (fun _ e => nomatch e), Calls.callWith_builtin rfl (Calls.evalArgs_plain (Calls.spliced_cons ?_))⟩
  refine item_rawV hN hv I1 hσ tup (by decide) (by show (1:Int) < ((3:Nat):Int); decide) (by show 3 ≤ 1000; decide) rfl (fun s2 I2 => ?_) (fun _ _ => rfl) hd hcd
  refine Calls.spliced_cons (item_rawV hN hv I2 hσ tup (by decide) (by show (2:Int) < ((3:Nat):Int); decide) (by show 3 ≤ 1000; decide) rfl (fun s3 I3 => Calls.spliced_nil ?_) (fun _ _ => rfl) hd hcd)
  exact replace_all (unbooked (nb_of I3.ok.mod nb) I3) ht hu htu hz fun t' k => ⟨.str (Txt.replace x a b), H1, I3.tok k, ⟨t', rfl⟩, q⟩
/-! ### the texts' methods, on lists of signs -/
theorem good_lt {l : List Nat} (h : Good l) : l.all (· < 128) = true := List.all_eq_true.mpr fun c hc => decide_eq_true (CH_lt c (h.1 c hc))
theorem lower_mk {l : List Nat} (h : Good l) : Txt.lower (S l) = S (mk .low l) := lower_S (good_lt h)
theorem replL_one (a b : Nat) : ∀ l : List Nat, PySem.StrLaws.replL [a] [b] l = l.map (swapC a b)
  | [] => PySem.StrLaws.replL_nil
  | c :: r => by
    have ih := replL_one a b r
    by_cases h : c = a
    · rw [PySem.StrLaws.replL_hit (by simp) (by simp [h])]
      show [b] ++ PySem.StrLaws.replL [a] [b] r = swapC a b c :: r.map (swapC a b)
      rw [ih]
      have e : swapC a b c = b := by unfold swapC; rw [if_pos h]
      rw [e]; rfl
    · rw [PySem.StrLaws.replL_miss (by simp [h]), ih]
      have e : swapC a b c = c := by unfold swapC; rw [if_neg h]
      rw [List.map_cons, e]
theorem replace_mk (a b : Nat) (l : List Nat) : Txt.replace (S l) (sg a) (sg b) = S (mk (.swap a b) l) := by
  refine TL.ext_tl ?_
  have e := PySem.StrLaws.replace_list (x := S l) (y := sg a) (z := sg b) (Nat.le_refl 1)
  refine e.trans ?_
  exact replL_one a b l
theorem drop_takeWhile (p : Nat → Bool) : ∀ l : List Nat, l.drop (l.takeWhile p).length = l.dropWhile p
  | [] => rfl
  | c :: r => by
    by_cases h : p c = true
    · rw [List.takeWhile_cons_of_pos h, List.dropWhile_cons_of_pos h, List.length_cons, List.drop_succ_cons]; exact drop_takeWhile p r
    · rw [List.takeWhile_cons_of_neg h, List.dropWhile_cons_of_neg h]; rfl
theorem lstrip_mk (a : Nat) (l : List Nat) : Txt.lstripChars (S l) (sg a) = S (mk (.lead a) l) := by
  refine TL.ext_tl ?_
  have e : Txt.lstripChars (S l) (sg a) = Builtin.Str.strSub (S l) (stripLo (sg a).cps.contains true (S l)) (stripHi (sg a).cps.contains false (S l) (stripLo (sg a).cps.contains true (S l))) := stripBy_eq _ _ _ _
  have hc : (sg a).cps.contains = fun c => decide (c = a) := by
    funext c
    show (#[a] : Array Nat).contains c = _
    by_cases h : c = a
    · simp [h]
    · simp [h]
  rw [e, TL.tl_strSub, hc]
  show (l.drop (l.takeWhile fun c => decide (c = a)).length).take ((S l).length - (l.takeWhile fun c => decide (c = a)).length) = l.dropWhile (fun c => decide (c = a))
  rw [S_len, List.take_of_length_le (by rw [List.length_drop]; omega), drop_takeWhile]
theorem onceN_filter (a : Nat) (l : List Nat) : ∀ n : Nat, onceN a l n = ((List.range n).filter (keepAt a l)).map (fun i => l.getD i 0)
  | 0 => rfl
  | n + 1 => by
    rw [onceN, onceN_filter a l n, List.range_succ, List.filter_append, List.map_append]
    congr 1
    by_cases h : keepAt a l n = true
    · simp [h]
    · simp [h]
end Pd

set_option maxHeartbeats 4000000
namespace Pd
open PySem PySem.Spec PyProof.Rows L2 SX
def spOnce : Sp := fun vs H Q _ => ∃ (l : List Nat) (a : Nat), vs = [.str (S l), .str (sg a)] ∧ Good l ∧ ∀ H', Ext H H' → Q (.str (S (onceL a l))) H'
theorem S_item {l : List Nat} {i : Nat} (hi : i < l.length) : atI (S l).cps.toList (i : Int) = some (l.getD i 0) := by
  refine atI_nat ?_
  show l[i]? = _
  rw [List.getElem?_eq_getElem hi]
  simp only [List.getD, List.getElem?_eq_getElem hi, Option.getD_some]
section
variable {P : Program} {w : World} {K : PySem.W.Frag} {mg : Str → Option Value} {base : Heap}
theorem ok_once {f : Addr} {fd : FuncData} (F : Fun K "_once" "_once" sOnce f fd) (T : Nms mg) : FnOk P w K mg base CX0 1 f fd ["text", "single"] spOnce := by
  refine F.ok scOnce (fun vs H Q E h => ?_) (fun cdv A outer s H vs Q E hr h => ?_)
  · obtain ⟨l, a, rfl, _⟩ := h
    rfl
  · obtain ⟨l, a, rfl, hG, q⟩ := h
    have nd := scOnce.nd
    refine ⟨_, pss_cons (ps_setLc (i := 2) (own := [("at", 3)]) (g := gName 3) rfl nd rfl rfl (sw_true rfl rfl rfl (by decide +kernel)) (pi_range1 rfl T.range (pa_cons (pe_callB call_len_str (by rfl) T.len PySem.boot_len (pa_cons (pv 0) pa_nil)) pa_nil))
        (blkOk_by (N := ["text", "single", "kept", "at"]) (sc := defScope sOnce) (by decide +kernel)) (fun _ _ _ _ _ => pg_name (i := 3) nd rfl (Or.inl rfl))
        (fun _ _ _ _ _ => pts_one (PW.pt (pw_or (pt_cmpR op_ne (pe_ix ix_str (pv 0) (pv 3) (fun _ _ => rfl)) (pv 1) (nomark _)) (pw_or (pt_cmpR op_eq (pv 3) pe_int (nomark _)) (pw_or1 (pt_cmpR op_ne (pe_ix ix_str (pv 0) (pe_op op_sub (pv 3) pe_int) (fun _ _ => rfl)) (pv 1) (nomark _)))))))
        (fun _ _ _ _ _ => pv 3))
      (pss_one (ps_ret (pe_join pe_str (pe_lc (own := [("at", 3)]) (g := gName 3) (tt := tYes) rfl nd (pi_list (pv 2)) (blkOk_by (N := ["text", "single", "kept", "at"]) (sc := defScope sOnce) (by decide +kernel)) (fun _ _ _ _ _ => pg_name (i := 3) nd rfl (Or.inl rfl)) (fun _ _ _ _ _ => pts_nil)
        (fun _ _ _ _ _ => pe_ix ix_str (pv 0) (pv 3) (fun _ _ => rfl)))))), ?_⟩
    have hl := hG.2
    refine ⟨_, rfl, _, rfl, by rw [S_len, sizeLine_eq]; omega, _, rfl, by rw [S_len]; omega, by rw [S_len]; omega, fun D hD => ?_⟩
    rw [show (((S l).length : Nat) : Int).toNat = l.length by rw [S_len]; omega]
    have ne2 : ∀ {x y : Nat}, V.str (sg x) = V.str (sg y) ↔ x = y := fun {x y} => sg_eq
    refine lc_it (walk_range (lo := 0) (n := l.length)) (fun i H' => H' D = some (.lst (((List.range i).filter (keepAt a l)).map fun k => V.int (k : Nat))) ∧ Ext H H') ⟨upd_same, Ext.refl.new hD⟩ (fun _ _ _ _ => trivial) ?_ ?_
    · rintro i x H2 H3 hi ⟨h2, k2⟩ ⟨rfl, rfl⟩
      have e0 : (0 : Int) + (i : Nat) = (i : Nat) := by omega
      show gName 3 (V.int (0 + (i : Nat))) _ _ _
      rw [e0]
      refine ⟨rfl, _, rfl, _, rfl, _, _, _, rfl, rfl, by rw [S_len, sizeLine_eq]; omega, S_item hi, _, rfl, rfl, _, rfl, ?_⟩
      have hlen : (((List.range i).filter (keepAt a l)).map fun k => V.int (k : Nat)).length < sizeLine := by
        rw [List.length_map, sizeLine_eq]
        have := List.length_filter_le (keepAt a l) (List.range i)
        rw [List.length_range] at this
        omega
      have yes : keepAt a l i = true → ∃ v, ([some (V.str (S l)), some (V.str (sg a)), none, some (V.int (i : Nat))] : L2.St)[3]? = some (some v) ∧ ∃ acc, H3 D = some (.lst acc) ∧ acc.length < sizeLine ∧
          ((L2.upd H3 D (.lst (acc ++ [v]))) D = some (.lst (((List.range (i + 1)).filter (keepAt a l)).map fun k => V.int (k : Nat))) ∧ Ext H (L2.upd H3 D (.lst (acc ++ [v])))) := fun hk => by
        refine ⟨_, rfl, _, h2, hlen, ?_, k2.new hD⟩
        rw [upd_same, List.range_succ, List.filter_append, List.map_append]
        simp [hk]
      by_cases h1 : l.getD i 0 = a
      · have e1 : (!decide (V.str (sg (l.getD i 0)) = V.str (sg a))) = false := by rw [decide_eq_true (ne2.mpr h1)]; rfl
        show if (!decide (V.str (sg (l.getD i 0)) = V.str (sg a))) = true then _ else _
        rw [e1]
        refine iteF ⟨_, rfl, rfl, _, rfl, ?_⟩
        by_cases h0 : i = 0
        · subst h0
          refine iteT (iteT (yes ?_))
          simp [keepAt]
        · rw [decide_eq_false (show ¬ V.int ((i : Nat) : Int) = V.int 0 from fun h => h0 (by injection h with h; omega))]
          have e3 : ((i : Nat) : Int) - 1 = ((i - 1 : Nat) : Int) := by omega
          refine iteF ⟨_, rfl, _, rfl, _, _, rfl, rfl, _, _, l.getD (i - 1) 0, rfl, rfl, by rw [S_len, sizeLine_eq]; omega, by rw [e3]; exact S_item (by omega), _, rfl, rfl, _, rfl, ?_⟩
          by_cases h4 : l.getD (i - 1) 0 = a
          · have e4 : (!decide (V.str (sg (l.getD (i - 1) 0)) = V.str (sg a))) = false := by rw [decide_eq_true (ne2.mpr h4)]; rfl
            show if (!decide (V.str (sg (l.getD (i - 1) 0)) = V.str (sg a))) = true then _ else _
            rw [e4]
            refine iteF ⟨?_, k2⟩
            have hk : keepAt a l i = false := by
              simp only [keepAt, Bool.or_eq_false_iff, decide_eq_false_iff_not, Decidable.not_not]
              exact ⟨⟨h1, h0⟩, h4⟩
            rw [h2, List.range_succ, List.filter_append]
            simp [hk]
          · have e4 : (!decide (V.str (sg (l.getD (i - 1) 0)) = V.str (sg a))) = true := by rw [decide_eq_false (fun h => h4 (ne2.mp h))]; rfl
            show if (!decide (V.str (sg (l.getD (i - 1) 0)) = V.str (sg a))) = true then _ else _
            rw [e4]
            refine iteT (yes ?_)
            simp only [keepAt, Bool.or_eq_true, decide_eq_true_eq]
            exact .inr h4
      · have e1 : (!decide (V.str (sg (l.getD i 0)) = V.str (sg a))) = true := by rw [decide_eq_false (fun h => h1 (ne2.mp h))]; rfl
        show if (!decide (V.str (sg (l.getD i 0)) = V.str (sg a))) = true then _ else _
        rw [e1]
        refine iteT (iteT (yes ?_))
        simp only [keepAt, Bool.or_eq_true, decide_eq_true_eq]
        exact .inl (.inl h1)
    · rintro H2 ⟨h2, k2⟩
      generalize hks : (List.range l.length).filter (keepAt a l) = ks at h2
      have hkl : ∀ k ∈ ks, k < l.length := fun k hk => by
        rw [← hks] at hk
        exact List.mem_range.mp (List.mem_filter.mp hk).1
      have hkn : ks.length ≤ l.length := by
        rw [← hks]
        have := List.length_filter_le (keepAt a l) (List.range l.length)
        rw [List.length_range] at this
        exact this
      refine ⟨⟨_, rfl⟩, _, rfl, D, rfl, ⟨_, SqL.of h2⟩, fun D2 hD2 => ?_⟩
      refine lc_it (walk_list (xs := ks.map fun k => V.int (k : Nat))) (fun i H' => H' D2 = some (.lst (((((ks.take i).map fun k => l.getD k 0)).map sg).map V.str)) ∧ Ext H2 H') ⟨upd_same, Ext.refl.new hD2⟩ (fun i H' _ p => SqL.of (p.2 D _ h2)) ?_ ?_
      · rintro i x H3 H4 hi ⟨h3, k3⟩ ⟨rfl, hx⟩
        rw [List.length_map] at hi
        rw [List.getElem?_map, List.getElem?_eq_getElem hi] at hx
        obtain rfl : V.int ((ks[i] : Nat) : Int) = x := Option.some.inj hx
        have hk : ks[i] < l.length := hkl _ (List.getElem_mem hi)
        refine ⟨rfl, _, rfl, _, rfl, _, _, _, rfl, rfl, by rw [S_len, sizeLine_eq]; omega, S_item hk, _, h3, ?_, ?_, k3.new hD2⟩
        · rw [List.length_map, List.length_map, List.length_map, sizeLine_eq]
          have := List.length_take_le' i ks
          omega
        · rw [upd_same, List.take_succ, List.getElem?_eq_getElem hi, Option.toList_some, List.map_append, List.map_append, List.map_append]
          rfl
      · rintro H3 ⟨h3, k3⟩
        rw [List.length_map, List.take_length] at h3
        refine join_ask h3 (by rw [List.length_map]; omega) ?_
        have e : (ks.map fun k => l.getD k 0) = onceL a l := by
          show _ = onceN a l l.length
          rw [onceN_filter, hks]
        rw [e]
        exact q H3 (k2.trans k3)
end
end Pd

set_option maxHeartbeats 4000000
namespace Pd
open PySem PySem.Spec PyProof.Rows L2 SX
/-! ### rows of steps -/
inductive Al (H : Hp) : List Addr → List Stp → Prop where
  | nil : Al H [] []
  | cons {p : Addr} {st : Stp} {ps : List Addr} {sts : List Stp} (h : StpAt H p st) (ok : st.ok) (r : Al H ps sts) : Al H (p :: ps) (st :: sts)
theorem Al.same {H H' : Hp} : ∀ {ps : List Addr} {sts : List Stp}, Al H ps sts → (∀ p ∈ ps, ∀ o, H p = some o → H' p = some o) → Al H' ps sts
  | _, _, .nil, _ => .nil
  | _, _, .cons h ok r, k => .cons (h.same fun o x => k _ (List.mem_cons_self ..) o x) ok (r.same fun p hp => k p (List.mem_cons_of_mem _ hp))
theorem Al.len {H : Hp} : ∀ {ps : List Addr} {sts : List Stp}, Al H ps sts → ps.length = sts.length
  | _, _, .nil => rfl
  | _, _, .cons _ _ r => congrArg (· + 1) r.len
theorem Al.get {H : Hp} : ∀ {ps : List Addr} {sts : List Stp} {i : Nat} {p : Addr}, Al H ps sts → ps[i]? = some p → ∃ st, sts[i]? = some st ∧ StpAt H p st ∧ st.ok
  | _, _, _, _, .nil, e => by simp at e
  | _, _, 0, _, .cons h ok r, e => by
    simp at e; subst e
    exact ⟨_, by simp, h, ok⟩
  | _, _, i + 1, _, .cons h ok r, e => by
    obtain ⟨st, e1, h1⟩ := r.get (i := i) (by simpa using e)
    exact ⟨st, by simpa using e1, h1⟩
theorem Al.mem {H : Hp} : ∀ {ps : List Addr} {sts : List Stp} {p : Addr}, Al H ps sts → p ∈ ps → ∃ st, StpAt H p st
  | _, _, _, .nil, h => nomatch h
  | _, _, _, .cons h ok r, hp => by
    rcases List.mem_cons.mp hp with rfl | hp
    · exact ⟨_, h⟩
    · exact r.mem hp
theorem Al.ext {H H' : Hp} {ps : List Addr} {sts : List Stp} (h : Al H ps sts) (k : Ext H H') : Al H' ps sts := h.same fun p _ o x => k p o x
theorem Al.kp {H H' : Hp} {j : Addr} {ps : List Addr} {sts : List Stp} {xs : List V} (h : Al H ps sts) (k : Kp j H H') (hj : H j = some (.lst xs)) : Al H' ps sts := h.same fun p hp o x => by
  obtain ⟨st, hst⟩ := h.mem hp
  obtain ⟨o', x', ne⟩ := hst.some
  refine k p o ?_ x
  rintro rfl
  rw [hj] at x'; cases x'
  exact ne _ rfl
theorem sqT_keep {K : PySem.W.Frag} {H H' : Hp} {a : Addr} {xs : List V} (h : SqT K H a xs) (k : ∀ o, H a = some o → H' a = some o) : SqT K H' a xs := by
  rcases h with (h | ⟨o, h⟩) | h
  · exact .inl (.inl (k _ h))
  · exact .inl (.inr ⟨o, k _ h⟩)
  · exact .inr h
theorem sqT_ty {K : PySem.W.Frag} {H : Hp} {a : Addr} {xs : List V} (h : SqT K H a xs) : TyX K H (.ref a) (.type "tuple") := by
  rcases h with (h | ⟨o, h⟩) | ⟨o, its, n, h, c, _⟩
  · exact .base (.tup h)
  · exact .fTuple h
  · exact .kTuple h c
theorem sqT_noLst {K : PySem.W.Frag} {H H' : Hp} {j a : Addr} {xs ys : List V} (h : SqT K H a xs) (k : Kp j H H') (hj : H j = some (.lst ys)) : SqT K H' a xs := by
  rcases h with (h | ⟨o, h⟩) | h
  · exact .inl (.inl (k a _ (by rintro rfl; rw [h] at hj; cases hj) h))
  · exact .inl (.inr ⟨o, k a _ (by rintro rfl; rw [h] at hj; cases hj) h⟩)
  · exact .inr h
def RowAt (K : PySem.W.Frag) (H : Hp) (r : Addr) (sts : List Stp) : Prop := ∃ ps : List Addr, SqT K H r (ps.map V.ref) ∧ Al H ps sts
section
variable {K : PySem.W.Frag}
theorem RowAt.ext {H H' : Hp} {r : Addr} {sts : List Stp} (h : RowAt K H r sts) (k : Ext H H') : RowAt K H' r sts := by
  obtain ⟨ps, e, a⟩ := h
  exact ⟨ps, sqT_keep e (fun o x => k r o x), a.ext k⟩
theorem RowAt.kp {H H' : Hp} {j r : Addr} {sts : List Stp} {xs : List V} (h : RowAt K H r sts) (k : Kp j H H') (hj : H j = some (.lst xs)) : RowAt K H' r sts := by
  obtain ⟨ps, e, a⟩ := h
  exact ⟨ps, sqT_noLst e k hj, a.kp k hj⟩
end
def mks (sts : List Stp) (l : List Nat) : List Nat := sts.foldl (fun l st => mk st l) l
theorem mks_good {l : List Nat} : ∀ {sts : List Stp}, (∀ st ∈ sts, st.ok) → Good l → Good (mks sts l) := by
  intro sts
  induction sts generalizing l with
  | nil => exact fun _ h => h
  | cons st sts ih => exact fun h g => ih (fun s hs => h s (List.mem_cons_of_mem _ hs)) (mk_good (h st (List.mem_cons_self ..)) g)
theorem Al.ok {H : Hp} : ∀ {ps : List Addr} {sts : List Stp}, Al H ps sts → ∀ st ∈ sts, st.ok
  | _, _, .nil, _, h => nomatch h
  | _, _, .cons _ ok r, st, h => by
    rcases List.mem_cons.mp h with rfl | h
    · exact ok
    · exact r.ok st h
theorem mks_take {sts : List Stp} {i : Nat} {st : Stp} (l : List Nat) (h : sts[i]? = some st) : mks (sts.take (i + 1)) l = mk st (mks (sts.take i) l) := by
  rw [List.take_succ, h]
  show ((sts.take i) ++ [st]).foldl (fun l st => mk st l) l = _
  rw [List.foldl_append]
  rfl
def spMadeSteps (K : PySem.W.Frag) : Sp := fun vs H Q _ => ∃ (r : Addr) (sts : List Stp) (l : List Nat), vs = [.ref r, .str (S l)] ∧ RowAt K H r sts ∧ Good l ∧ ∀ H', Ext H H' → Q (.str (S (mks sts l))) H'
section
variable {P : Program} {w : World} {K : PySem.W.Frag} {mg : Str → Option Value} {base : Heap}
theorem ok_madeByStep {f : Addr} {fd : FuncData} (F : Fun K "made_by_step" "made_by_step" sMadeByStep f fd) (T : Nms mg) (nb : PySem.W.nsIn K cStatics sharingNotToldKey = some none) (G : Cl P w K mg base 1 "_once" spOnce) : FnOk P w K mg base CX0 2 f fd ["step", "text"] spMade := by
  refine F.ok scMadeByStep (fun vs H Q E h => ?_) (fun cdv A outer s H vs Q E hr h => ?_)
  · obtain ⟨p, st, l, rfl, _⟩ := h
    rfl
  · obtain ⟨p, st, l, rfl, hst, hok, hG, q⟩ := h
    have nd := scMadeByStep.nd
    refine ⟨_, pss_cons (ps_set (i := 2) nd rfl (Or.inl rfl) (pe_ix ix_tup (pv 0) pe_int (fun _ _ => rfl)))
      (pss_cons (ps_if (pt_cmpR op_eq (pv 2) pe_str (nomark _)) (pss_one (ps_ret (pe_lower (pv 1)))) pss_nil)
      (pss_cons (ps_if (pt_cmpR op_eq (pv 2) pe_str (nomark _)) (pss_one (ps_ret (pe_replV (i := 0) nb (pv 1) rfl (.inr (.inl rfl))))) pss_nil)
      (pss_cons (ps_if (pt_cmpR op_eq (pv 2) pe_str (nomark _)) (pss_one (ps_ret (pe_join pe_str
        (pe_lc (own := [("character", 3)]) (g := gName 3) rfl nd (pi_str (pv 1)) (blkOk_by (N := ["step", "text", "name", "character"]) (sc := defScope sMadeByStep) (by decide +kernel)) (fun _ _ _ _ _ => pg_name (i := 3) nd rfl (Or.inl rfl)) (fun _ _ _ _ _ => pts_one (pt_cmpR op_notIn_sign (pv 3) (pe_ix (ix_tupK (K := K) rfl) (pv 0) pe_int (fun _ _ => rfl)) rfl))
          (fun _ _ _ _ _ => pv 3))))) pss_nil)
      (pss_cons (ps_if (pt_cmpR op_eq (pv 2) pe_str (nomark _)) (pss_one (ps_ret (pe_m1 PySem.F.slot_str_lstrip PySem.F.type_str_lstrip mt_lstripChars (pv 1) (pe_ix ix_tup (pv 0) pe_int (fun _ _ => rfl))))) pss_nil)
      (pss_cons (ps_if (pt_cmpR op_eq (pv 2) pe_str (nomark _)) (pss_one (ps_ret (pe_cl G hr (by decide) rfl (pa_cons (pv 1) (pa_cons (pe_ix ix_tup (pv 0) pe_int (fun _ _ => rfl)) pa_nil))))) pss_nil)
      (pss_one (ps_ret (pe_slice C8.sl_txt (pv 1) po_none (po_some (pe_ix ix_tup (pv 0) pe_int (fun _ _ => rfl))))))))))),?_⟩
    have hl60 := hG.2
    refine ⟨_, rfl, p, stpVals st, 0, .str (wordOf st), rfl, rfl, hst.seq, word_at st, ?_⟩
    have in0 : ∀ {c : Nat} {H' : Hp}, Ext H H' → SqT K H' p (stpVals st) := fun k => (hst.ext k).seq
    cases st with
    | low =>
      refine ⟨_, rfl, rfl, _, rfl, ite2 (fun _ => ?_) (fun h => absurd (decide_eq_true rfl) h)⟩
      refine ⟨_, rfl, ⟨_, rfl⟩, _, rfl, rfl, by rw [S_len]; omega, ?_⟩
      rw [lower_mk hG]
      exact q H .refl
    | swap a b =>
      refine ⟨_, rfl, rfl, _, rfl, ite2 (fun h => absurd (show V.str "swap" = V.str "lower" from of_decide_eq_true h) (by decide +kernel)) (fun _ => ?_)⟩
      refine ⟨_, rfl, rfl, _, rfl, ite2 (fun _ => ?_) (fun h => absurd (decide_eq_true rfl) h)⟩
      refine ⟨_, rfl, S l, p, sg a, sg b, rfl, rfl, hst, ?_, ?_⟩
      · have e : (sg b).length = 1 := rfl
        rw [S_len, e]; omega
      · rw [replace_mk]
        exact q H .refl
    | drop cs =>
      refine ⟨_, rfl, rfl, _, rfl, ite2 (fun h => absurd (show V.str "drop" = V.str "lower" from of_decide_eq_true h) (by decide +kernel)) (fun _ => ?_)⟩
      refine ⟨_, rfl, rfl, _, rfl, ite2 (fun h => absurd (show V.str "drop" = V.str "swap" from of_decide_eq_true h) (by decide +kernel)) (fun _ => ?_)⟩
      refine ⟨_, rfl, rfl, _, rfl, ite2 (fun _ => ?_) (fun h => absurd (decide_eq_true rfl) h)⟩
      refine ⟨⟨_, rfl⟩, _, rfl, _, rfl, fun D' hD => lc_text (fun c => if c ∉ cs then some c else none) (by omega) hD (fun c H2 acc Nx hc k2 hacc hal nx => ⟨rfl, ?_⟩) fun H2 h2 k2 => ?_⟩
      · refine ⟨_, rfl, _, rfl, p, _, 1, .str (S cs), rfl, rfl, in0 (c := 0) k2, rfl, c, S cs, rfl, rfl, _, rfl, ?_⟩
        show if (!decide (c ∈ cs)) = true then _ else _
        by_cases hc : c ∈ cs
        · rw [decide_eq_true hc]
          refine iteF (nx H2 ?_ k2)
          rw [if_neg (fun h => h hc)]
          show H2 D' = some (.lst (acc ++ []))
          rw [List.append_nil]; exact hacc
        · rw [decide_eq_false hc]
          refine iteT ⟨_, rfl, acc, hacc, hal, nx _ ?_ (k2.new hD)⟩
          rw [if_pos hc]; exact upd_same
      · rw [← mk_drop] at h2
        exact join_ask h2 (Nat.le_trans (mk_len _ l) (by omega)) (q H2 k2)
    | lead a =>
      refine ⟨_, rfl, rfl, _, rfl, ite2 (fun h => absurd (show V.str "lead" = V.str "lower" from of_decide_eq_true h) (by decide +kernel)) (fun _ => ?_)⟩
      refine ⟨_, rfl, rfl, _, rfl, ite2 (fun h => absurd (show V.str "lead" = V.str "swap" from of_decide_eq_true h) (by decide +kernel)) (fun _ => ?_)⟩
      refine ⟨_, rfl, rfl, _, rfl, ite2 (fun h => absurd (show V.str "lead" = V.str "drop" from of_decide_eq_true h) (by decide +kernel)) (fun _ => ?_)⟩
      refine ⟨_, rfl, rfl, _, rfl, ite2 (fun _ => ?_) (fun h => absurd (decide_eq_true rfl) h)⟩
      refine ⟨_, rfl, ⟨_, rfl⟩, _, rfl, p, _, 1, .str (sg a), rfl, rfl, in0 (c := 0) .refl, rfl, _, _, rfl, rfl, by rw [S_len, sizeLine_eq]; omega, ?_⟩
      rw [lstrip_mk]
      exact q H .refl
    | once a =>
      refine ⟨_, rfl, rfl, _, rfl, ite2 (fun h => absurd (show V.str "once" = V.str "lower" from of_decide_eq_true h) (by decide +kernel)) (fun _ => ?_)⟩
      refine ⟨_, rfl, rfl, _, rfl, ite2 (fun h => absurd (show V.str "once" = V.str "swap" from of_decide_eq_true h) (by decide +kernel)) (fun _ => ?_)⟩
      refine ⟨_, rfl, rfl, _, rfl, ite2 (fun h => absurd (show V.str "once" = V.str "drop" from of_decide_eq_true h) (by decide +kernel)) (fun _ => ?_)⟩
      refine ⟨_, rfl, rfl, _, rfl, ite2 (fun h => absurd (show V.str "once" = V.str "lead" from of_decide_eq_true h) (by decide +kernel)) (fun _ => ?_)⟩
      refine ⟨_, rfl, rfl, _, rfl, ite2 (fun _ => ?_) (fun h => absurd (decide_eq_true rfl) h)⟩
      exact ⟨_, rfl, _, rfl, p, _, 1, .str (sg a), rfl, rfl, in0 (c := 0) .refl, rfl, l, a, rfl, hG, q⟩
    | cut n =>
      refine ⟨_, rfl, rfl, _, rfl, ite2 (fun h => absurd (show V.str "cut" = V.str "lower" from of_decide_eq_true h) (by decide +kernel)) (fun _ => ?_)⟩
      refine ⟨_, rfl, rfl, _, rfl, ite2 (fun h => absurd (show V.str "cut" = V.str "swap" from of_decide_eq_true h) (by decide +kernel)) (fun _ => ?_)⟩
      refine ⟨_, rfl, rfl, _, rfl, ite2 (fun h => absurd (show V.str "cut" = V.str "drop" from of_decide_eq_true h) (by decide +kernel)) (fun _ => ?_)⟩
      refine ⟨_, rfl, rfl, _, rfl, ite2 (fun h => absurd (show V.str "cut" = V.str "lead" from of_decide_eq_true h) (by decide +kernel)) (fun _ => ?_)⟩
      refine ⟨_, rfl, rfl, _, rfl, ite2 (fun h => absurd (show V.str "cut" = V.str "once" from of_decide_eq_true h) (by decide +kernel)) (fun _ => ?_)⟩
      refine ⟨_, rfl, _, rfl, p, _, 1, .int (n : Nat), rfl, rfl, in0 (c := 0) .refl, rfl, _, rfl, _, rfl, by rw [S_len, sizeLine_eq]; omega, ?_⟩
      rw [slice_to (by omega)]
      exact q H .refl
theorem ok_madeBySteps {f : Addr} {fd : FuncData} (F : Fun K "made_by_steps" "made_by_steps" sMadeBySteps f fd) (G : Cl P w K mg base 2 "made_by_step" spMade) : FnOk P w K mg base CX0 3 f fd ["steps", "text"] (spMadeSteps K) := by
  refine F.ok scMadeBySteps (fun vs H Q E h => ?_) (fun cdv A outer s H vs Q E hr h => ?_)
  · obtain ⟨p, st, l, rfl, _⟩ := h
    rfl
  · obtain ⟨r, sts, l, rfl, ⟨ps, hr0, al⟩, hG, q⟩ := h
    have nd := scMadeBySteps.nd
    refine ⟨_, pss_cons (ps_for PassesOwn.never rfl (pi_tup (pv 0)) (pg_name (i := 2) nd rfl (Or.inl rfl)) (pss_one (ps_set (i := 1) nd rfl (Or.inl rfl) (pe_cl G hr (by decide) rfl (pa_cons (pv 2) (pa_cons (pv 1) pa_nil)))))) (pss_one (ps_ret (pv 1))), ?_⟩
    refine ⟨_, rfl, r, rfl, ⟨_, hr0⟩, for_it (walk_tup (xs := ps.map V.ref)) (fun i σ H' => ∃ u, σ = [some (.ref r), some (.str (S (mks (sts.take i) l))), u] ∧ Ext H H') ⟨none, by rw [List.take_zero]; rfl, .refl⟩ (fun i σ H' _ p => by
      obtain ⟨u, _, k⟩ := p
      exact sqT_keep hr0 (fun o x => k r o x)) ?_ ?_⟩
    · rintro i x σ H2 H3 hi ⟨u, rfl, k2⟩ ⟨rfl, hx⟩
      rw [List.getElem?_map] at hx
      obtain ⟨p, hp, rfl⟩ := Option.map_eq_some_iff.mp hx
      obtain ⟨st, e, hst, ok⟩ := al.get hp
      have gd : Good (mks (sts.take i) l) := mks_good (fun s hs => al.ok s (List.mem_of_mem_take hs)) hG
      refine ⟨_, rfl, _, rfl, p, st, _, rfl, hst.ext k2, ok, gd, fun H4 k4 => ⟨some (.ref p), ?_, k2.trans k4⟩⟩
      rw [mks_take l e]
      rfl
    · rintro σ H2 ⟨u, rfl, k2⟩
      refine ⟨_, rfl, ?_⟩
      rw [List.length_map, al.len, List.take_length]
      exact q H2 k2
end
end Pd

set_option maxHeartbeats 4000000
namespace Pd
open PySem PySem.Spec PyProof.Rows L2 SX
/-- a folding at o: its steps' tuple at r -/
def FoldAt (K : PySem.W.Frag) (C : Addr) (H : Hp) (o r : Addr) (sts : List Stp) : Prop := (∃ dx, H o = some (.ins C dx [("_steps", .ref r)])) ∧ RowAt K H r sts ∧ sts.length ≤ 6
theorem FoldAt.ext {K : PySem.W.Frag} {C : Addr} {H H' : Hp} {o r : Addr} {sts : List Stp} (h : FoldAt K C H o r sts) (k : Ext H H') : FoldAt K C H' o r sts := by
  obtain ⟨⟨dx, e⟩, a, l⟩ := h
  exact ⟨⟨dx, k o _ e⟩, a.ext k, l⟩
theorem FoldAt.kp {K : PySem.W.Frag} {C : Addr} {H H' : Hp} {j o r : Addr} {sts : List Stp} {xs : List V} (h : FoldAt K C H o r sts) (k : Kp j H H') (hj : H j = some (.lst xs)) : FoldAt K C H' o r sts := by
  obtain ⟨⟨dx, e⟩, a, l⟩ := h
  exact ⟨⟨dx, k o _ (by rintro rfl; rw [e] at hj; cases hj) e⟩, a.kp k hj, l⟩
theorem StpAt.noIns {H : Hp} {p : Addr} {st : Stp} (h : StpAt H p st) {C : Addr} {dx : Addr} {fs : List (Str × V)} (e : H p = Option.some (.ins C dx fs)) : False := by
  cases st with
  | swap a b =>
    obtain ⟨n, t0, t, u, e', _⟩ := h
    rw [e] at e'; cases e'
  | low => rw [show H p = _ from h] at e; cases e
  | drop _ => rw [show H p = _ from h] at e; cases e
  | lead _ => rw [show H p = _ from h] at e; cases e
  | once _ =>
    rcases h with h | ⟨o, h⟩
    · rw [h] at e; cases e
    · rw [h] at e; cases e
  | cut _ => rw [show H p = _ from h] at e; cases e
/-- what the program asks of the class -/
structure Fcl (K : PySem.W.Frag) (mg : Str → Option Value) (C : Addr) : Prop where
  cl : Cls K C
  nS : NoAttr K C "_steps"
  mgC : mg "Folding" = some (.ref C)
theorem sqT_noIns {K : PySem.W.Frag} {H H' : Hp} {o a C dx : Addr} {xs : List V} {fs : List (Str × V)} (h : SqT K H a xs) (ho : H o = some (.ins C dx fs)) (k : ∀ b u, b ≠ o → H b = some u → H' b = some u) : SqT K H' a xs := by
  rcases h with (h | ⟨u, h⟩) | h
  · exact .inl (.inl (k a _ (by rintro rfl; rw [h] at ho; cases ho) h))
  · exact .inl (.inr ⟨u, k a _ (by rintro rfl; rw [h] at ho; cases ho) h⟩)
  · exact .inr h
def spFInit (K : PySem.W.Frag) (C : Addr) : Sp := fun vs H Q _ => ∃ (o dx r : Addr) (sts : List Stp), vs = [.ref o, .ref r] ∧ H o = some (.ins C dx []) ∧ RowAt K H r sts ∧ sts.length ≤ 6 ∧
  ∀ H', FoldAt K C H' o r sts → (∀ b u, b ≠ o → H b = some u → H' b = some u) → Q .non H'
def spFCall (K : PySem.W.Frag) (C : Addr) : Sp := fun vs H Q _ => ∃ (o r : Addr) (sts : List Stp) (l : List Nat), vs = [.ref o, .str (S l)] ∧ FoldAt K C H o r sts ∧ Good l ∧ ∀ H', Ext H H' → Q (.str (S (mks sts l))) H'
section
variable {P : Program} {w : World} {K : PySem.W.Frag} {mg : Str → Option Value} {base : Heap}
theorem ok_finit {f Cf : Addr} {fd : FuncData} {dvs : List V} (F : FunD K "__init__" "Folding.__init__" (defArgs sFoldingInit) (defBody sFoldingInit) (defScope sFoldingInit) dvs [] f fd) (T : Nms mg) (C : Cst mg) (Z : Fcl K mg Cf) (G : Cl P w K mg base 3 "is_step" spIsStep) :
    FnOk P w K mg base CX0 4 f fd ["self", "steps"] (spFInit K Cf) := by
  refine F.ok scFoldingInit (fun vs H Q E h => ?_) (fun cdv A outer s H vs Q E hr h => ?_)
  · obtain ⟨o, dx, r, sts, rfl, _⟩ := h
    rfl
  · obtain ⟨o, dx, r, sts, rfl, ho, ⟨ps, hr0, al⟩, h6, q⟩ := h
    have nd := scFoldingInit.nd
    obtain ⟨t6, hm⟩ := C.steps
    refine ⟨_, PSs.nox (pss_cons (ps_if (pt_not (pt_val (pe_callB call_isi (by rfl) T.isi (by decide +kernel) (pa_cons (pv 1) (pa_cons (pe_bltn (v := .ty "tuple") (by rfl) T.tuple (by decide +kernel) rfl) pa_nil))))) pss_never pss_nil)
      (pss_cons (ps_for PassesOwn.never rfl (pi_enumT (by rfl) T.enum (pa_cons (pv 1) pa_nil)) (pg_tup (by rfl) (pgs_cons (pg_name (i := 2) nd rfl (Or.inl rfl)) (pgs_cons (pg_name (i := 3) nd rfl (Or.inl rfl)) pgs_nil)))
        (pss_one (ps_if (PW.pt (pw_or (pt_cmpR op_ge (pv 2) (pe_glob (v := .int 6) rfl hm ⟨_, rfl⟩) (nomark _)) (pw_or1 (pt_not (pt_val (pe_cl G hr (by decide) rfl (pa_cons (pv 3) pa_nil))))))) pss_never pss_nil)))
      (pss_one (ps_fld (pv 0) (pv 1) rfl)))), ?_⟩
    refine ⟨_, rfl, _, _, _, _, true, rfl, .ty "tuple", sqT_ty hr0, kit_ty (by decide +kernel), true, rfl, iteF ?_⟩
    refine ⟨_, rfl, r, _, rfl, hr0, for_it (walk_enumT (xs := ps.map V.ref)) (fun i σ H' => ∃ u v, σ = [some (.ref o), some (.ref r), u, v] ∧ Ext H H') ⟨none, none, rfl, .refl⟩ (fun i σ H' _ p => by
      obtain ⟨u, v, _, k⟩ := p
      exact sqT_keep hr0 (fun o x => k r o x)) ?_ ?_⟩
    · rintro i x σ H2 H3 hi ⟨u, v, rfl, k2⟩ ⟨Ta, x1, y1, rfl, hT, rfl, e1, e2⟩
      obtain rfl := Option.some.inj e1
      rw [List.length_map] at hi
      replace e2 : (ps.map V.ref)[i]? = some y1 := e2
      rw [List.getElem?_map] at e2
      obtain ⟨p, hp, rfl⟩ := Option.map_eq_some_iff.mp e2
      obtain ⟨st, es, hst, ok⟩ := al.get hp
      have k3 : Ext H (L2.upd H2 Ta (.tup [V.int (i : Nat), V.ref p])) := fun b ob hb => by
        rw [upd_ne (ne_of_none (k2 b ob hb) hT)]; exact k2 b ob hb
      have i6 : i < 6 := by have := al.len; omega
      refine ⟨Ta, _, rfl, SqT.of upd_same, rfl, _, _, rfl, _, _, rfl, rfl, ?_⟩
      refine ⟨_, rfl, _, _, rfl, rfl, _, rfl, ?_⟩
      rw [decide_eq_false (show ¬ ((i : Nat) : Int) ≥ 6 by omega)]
      refine iteF ⟨_, rfl, p, st, rfl, hst.ext k3, ok, fun H4 k4 => ⟨true, rfl, iteF ⟨some (.int (i : Nat)), some (.ref p), rfl, k3.trans k4⟩⟩⟩
    · rintro σ H2 ⟨u, v, rfl, k2⟩
      refine ⟨_, rfl, _, rfl, o, Cf, dx, [], rfl, k2 o _ ho, Z.cl, Z.nS, (by show 0 < 1000; decide), ?_⟩
      have no : ∀ b u, b ≠ o → H b = some u → (L2.upd H2 o (.ins Cf dx (putF "_steps" (V.ref r) []))) b = some u := fun b u n e => by rw [upd_ne n]; exact k2 b u e
      refine q (L2.upd H2 o (.ins Cf dx (putF "_steps" (V.ref r) []))) ⟨⟨dx, upd_same⟩, ⟨ps, sqT_noIns hr0 ho no, al.same fun p hp ob e => no p ob ?_ e⟩, h6⟩ no
      rintro rfl
      obtain ⟨st, hst⟩ := al.mem hp
      exact hst.noIns ho
theorem ok_fcall {f Cf : Addr} {fd : FuncData} (F : Fun K "__call__" "Folding.__call__" sFoldingCall f fd) (T : Nms mg) (Z : Fcl K mg Cf) (G : Cl P w K mg base 1 "is_text" spIsText) (G2 : Cl P w K mg base 3 "made_by_steps" (spMadeSteps K)) :
    FnOk P w K mg base CX0 4 f fd ["self", "text"] (spFCall K Cf) := by
  refine F.ok scFoldingCall (fun vs H Q E h => ?_) (fun cdv A outer s H vs Q E hr h => ?_)
  · obtain ⟨o, r, sts, l, rfl, _⟩ := h
    rfl
  · obtain ⟨o, r, sts, l, rfl, hF, hG, q⟩ := h
    have nd := scFoldingCall.nd
    refine ⟨_, pss_cons (ps_if (pt_not (pt_val (pe_cl G hr (by decide) rfl (pa_cons (pv 1) pa_nil)))) pss_never pss_nil)
      (pss_one (ps_ret (pe_cl G2 hr (by decide) rfl (pa_cons (pe_fld (pv 0) rfl) (pa_cons (pv 1) pa_nil))))), ?_⟩
    refine ⟨_, rfl, l, rfl, by have := hG.2; omega, fun H2 k2 => ⟨_, rfl, ?_⟩⟩
    rw [goodB_of hG]
    refine iteF ?_
    obtain ⟨⟨dx, e⟩, hR, h6⟩ := hF.ext k2
    exact ⟨_, rfl, o, Cf, dx, _, _, rfl, e, Z.cl, Z.nS, rfl, _, rfl, r, sts, l, rfl, hR, hG, fun H3 k3 => q H3 (k2.trans k3)⟩
end
end Pd

set_option maxHeartbeats 4000000
namespace Pd
open PySem PySem.Spec PyProof.Rows L2 SX
theorem sqL_keep {K : PySem.W.Frag} {H H' : Hp} {a : Addr} {xs : List V} (h : SqL K H a xs) (k : ∀ o, H a = some o → H' a = some o) : SqL K H' a xs := by
  rcases h with (h | ⟨o, h⟩) | h
  · exact .inl (.inl (k _ h))
  · exact .inl (.inr ⟨o, k _ h⟩)
  · exact .inr h
theorem JarAt.ext {H H' : Hp} {j : Addr} {n : Nat} (h : JarAt H j n) (k : Ext H H') : JarAt H' j n := by
  obtain ⟨a, b, c, h1, r⟩ := h
  exact ⟨a, b, c, k j _ h1, r⟩
theorem SgnsAt.ext {H H' : Hp} {a : Addr} {gs : List Nat} (h : SgnsAt H a gs) (k : Ext H H') : SgnsAt H' a gs := by
  refine ⟨?_, h.len, h.ok⟩
  obtain ⟨its, n, m, q, e, r⟩ := h.at_
  exact ⟨its, n, m, q, k a _ e, r⟩
theorem FoldAt.ins {K : PySem.W.Frag} {X : Cx} {C : Addr} {H : Hp} {o r : Addr} {sts : List Stp} (h : FoldAt K C H o r sts) : StX.InsC X H o C := by
  obtain ⟨⟨dx, e⟩, _⟩ := h
  exact .inr ⟨dx, _, e⟩
theorem mks_one (st : Stp) (l : List Nat) : mks [st] l = mk st l := rfl
theorem ne_same {x : Str} {A B : Prop} (h : B) : if (!decide (V.str x = V.str x)) = true then A else B := by
  rw [decide_eq_true rfl]; exact h
theorem strS_eq {a b : List Nat} : V.str (S a) = V.str (S b) ↔ a = b := by
  constructor
  · intro h
    injection h with h
    exact SX.S_inj h
  · rintro rfl; rfl
theorem dec_S (a b : List Nat) : decide (V.str (S a) = V.str (S b)) = decide (a = b) := by
  by_cases h : a = b
  · rw [decide_eq_true h, decide_eq_true (strS_eq.mpr h)]
  · rw [decide_eq_false h, decide_eq_false (fun e => h (strS_eq.mp e))]
/-- a folding made of a row: what __init__ asks, and the heap behind it -/
theorem made_ask {K : PySem.W.Frag} {C : Addr} {H : Hp} {r x dx : Addr} {sts : List Stp} {Q : VK} {E : XK} (hR : RowAt K H r sts) (h6 : sts.length ≤ 6) (hx : H x = none) (hdx : H dx = none) (ne : dx ≠ x) (q : ∀ H', FoldAt K C H' x r sts → Ext H H' → Q .non H') :
    spFInit K C [.ref x, V.ref r] (upd (upd H dx (.own x)) x (.ins C dx [])) Q E := by
  have k : Ext H (upd (upd H dx (.own x)) x (.ins C dx [])) := fun b u e => by
    rw [upd_ne (ne_of_none e hx), upd_ne (ne_of_none e hdx)]; exact e
  exact ⟨x, dx, r, sts, rfl, upd_same, hR.ext k, h6, fun H' F k2 => q H' F fun b u e => k2 b u (ne_of_none e hx) (k b u e)⟩
/-- the class Folding: made by position, called by position -/
structure Fol (P : Program) (w : World) (K : PySem.W.Frag) (mg : Str → Option Value) (base : Heap) (C : Addr) : Prop where
  made : ∃ (f : Addr) (fd : FuncData), Mk K C f ∧ FnOk P w K mg base CX0 4 f fd ["self", "steps"] (spFInit K C) ∧ Binds K fd ["self", "steps"] []
  call : ∃ (g : Addr) (fd : FuncData), StX.CallO K C g ∧ FnOk P w K mg base CX0 4 g fd ["self", "text"] (spFCall K C) ∧ Binds K fd ["self", "text"] []
  mgC : mg "Folding" = some (.ref C)
def spRow (K : PySem.W.Frag) : Sp := fun vs H Q _ => ∃ (j a : Addr) (n : Nat) (gs : List Nat), vs = [.ref j, .ref a, .int 6] ∧ JarAt H j n ∧ SgnsAt H a gs ∧ n + 400 < 1000000 ∧
  ∀ r sts H', H r = none → sts.length ≤ 6 → RowAt K H' r sts → JarAt H' j (n + 400) → Kp j H H' → Q (.ref r) H'
def spFIn (K : PySem.W.Frag) (C : Addr) : Sp := fun vs H Q _ => ∃ (o r : Addr) (sts : List Stp) (l : List Nat), vs = [.ref o, .str (S l)] ∧ FoldAt K C H o r sts ∧ Good l ∧ ∀ H', Ext H H' → Q (.bl (decide (mks sts l = l))) H'
section
variable {P : Program} {w : World} {K : PySem.W.Frag} {mg : Str → Option Value} {base : Heap}
theorem ok_fin {f Cf : Addr} {fd : FuncData} (F : Fun K "__contains__" "Folding.__contains__" sFoldingContains f fd) (T : Nms mg) (Z : Fcl K mg Cf) (G : Cl P w K mg base 1 "is_text" spIsText) (G2 : Cl P w K mg base 3 "made_by_steps" (spMadeSteps K)) :
    FnOk P w K mg base CX0 4 f fd ["self", "x"] (spFIn K Cf) := by
  refine F.ok scFoldingContains (fun vs H Q E h => ?_) (fun cdv A outer s H vs Q E hr h => ?_)
  · obtain ⟨o, r, sts, l, rfl, _⟩ := h
    rfl
  · obtain ⟨o, r, sts, l, rfl, hF, hG, q⟩ := h
    refine ⟨_, pss_one (ps_ret (pe_and (pe_cl G hr (by decide) rfl (pa_cons (pv 1) pa_nil)) (pe_one (pe_cmpR op_eq (pe_cl G2 hr (by decide) rfl (pa_cons (pe_fld (pv 0) rfl) (pa_cons (pv 1) pa_nil))) (pv 1) (nomark _))))), ?_⟩
    refine ⟨_, rfl, l, rfl, by have := hG.2; omega, fun H2 k2 => ⟨_, rfl, ?_⟩⟩
    rw [goodB_of hG]
    refine iteT ?_
    obtain ⟨⟨dx, e⟩, hR, h6⟩ := hF.ext k2
    refine ⟨_, rfl, o, Cf, dx, _, _, rfl, e, Z.cl, Z.nS, rfl, _, rfl, r, sts, l, rfl, hR, hG, fun H3 k3 => ⟨_, rfl, rfl, ?_⟩⟩
    rw [dec_S]
    exact q H3 (k2.trans k3)
end
end Pd

set_option maxHeartbeats 4000000
namespace Pd
open PySem PySem.Spec PyProof.Rows L2 SX
theorem atI_S {l : List Nat} {i : Nat} {c : Nat} (h : l[i]? = some c) : atI (S l).cps.toList (i : Int) = some c := atI_nat h
theorem Al.snoc {H : Hp} {p : Addr} {st : Stp} (hp : StpAt H p st) (ok : st.ok) : ∀ {ps : List Addr} {sts : List Stp}, Al H ps sts → Al H (ps ++ [p]) (sts ++ [st])
  | _, _, .nil => .cons hp ok .nil
  | _, _, .cons h o r => .cons h o (r.snoc hp ok)
def spBrow (K : PySem.W.Frag) : Sp := fun vs H Q _ => ∃ (j : Addr) (n : Nat) (l : List Nat), vs = [.ref j, .str (S l)] ∧ JarAt H j n ∧ PoolOk l ∧ n + 400 < 1000000 ∧
  ∀ r sts H', H r = none → sts.length ≤ 6 → RowAt K H' r sts → JarAt H' j (n + 400) → Kp j H H' → Q (.ref r) H'
section
variable {P : Program} {w : World} {K : PySem.W.Frag} {mg : Str → Option Value} {base : Heap}
theorem ok_pool {f : Addr} {fd : FuncData} (F : Fun K "_law_pool" "_law_pool" sLawPool f fd) (T : Nms mg) (D : Cl P w K mg base 1 "_law_draw" spDraw) (C : Cl P w K mg base 1 "_law_chars" spChars) : FnOk P w K mg base CX0 2 f fd ["well"] spPool := by
  refine F.ok scLawPool (fun vs H Q E h => ?_) (fun cdv A outer s H vs Q E hr h => ?_)
  · obtain ⟨j, n, rfl, _⟩ := h
    rfl
  · obtain ⟨j, n, rfl, hJ, hn, q⟩ := h
    have nd := scLawPool.nd
    refine ⟨_, pss_cons (ps_asg (pe_tup (pa_cons (pe_cl0 C hr (by decide) rfl) (pa_cons (pe_cl D hr (by decide) rfl (pa_cons (pv 0) (pa_cons pe_int pa_nil))) pa_nil))) (pg_tup (by rfl) (pgs_cons (pg_name (i := 1) nd rfl (Or.inr rfl)) (pgs_cons (pg_name (i := 2) nd rfl (Or.inl rfl)) pgs_nil))))
      (pss_cons (ps_set (i := 3) nd rfl (Or.inl rfl) (pe_join pe_str (pe_lc (own := [("k", 4)]) (g := gName 4) (tt := tYes) rfl nd (pi_range1 rfl T.range (pa_cons pe_int pa_nil)) (blkOk_by (N := ["well", "chars", "letter", "more", "k"]) (sc := defScope sLawPool) (by decide +kernel)) (fun _ _ _ _ _ => pg_name (i := 4) nd rfl (Or.inl rfl)) (fun _ _ _ _ _ => pts_nil)
          (fun _ _ _ _ _ => pe_ix ix_str (pv 1) (pe_cl D hr (by decide) rfl (pa_cons (pv 0) (pa_cons pe_int pa_nil))) (fun _ _ => rfl)))))
      (pss_one (ps_ret (pe_op op_add_str (pe_op op_add_str (pe_ix ix_str (pv 1) (pv 2) (fun _ _ => rfl)) (pe_ix ix_str (pv 1) (pe_op op_add pe_int (pv 2)) (fun _ _ => rfl))) (pv 3))))), ?_⟩
    obtain ⟨xs0, hx0⟩ := hJ.lst
    refine ⟨rfl, _, rfl, j, 26, n, rfl, hJ, by omega, by decide, by decide, fun r H1 h0 h1 J1 k1 => ⟨by show 2 ≤ sizeLine; decide, fun t ht => ⟨t, _, rfl, SqT.of upd_same, rfl, _, _, rfl, _, _, rfl, rfl, ?_⟩⟩⟩
    have J1' := J1.new (o := .tup [V.str (S CH), V.int r]) ht
    have k1' : Kp j H (L2.upd H1 t (.tup [V.str (S CH), V.int r])) := k1.new ht
    refine ⟨⟨_, rfl⟩, 4, rfl, by decide, by decide, fun D1 hD => ?_⟩
    obtain ⟨xs1, hx1⟩ := J1'.lst
    have nDj : D1 ≠ j := fun e => by rw [e, hx1] at hD; cases hD
    refine lc_it (walk_range (lo := 0) (n := 4)) (fun i H' => ∃ m : List Nat, H' D1 = some (.lst ((m.map sg).map V.str)) ∧ m.length = i ∧ (∀ c ∈ m, c ∈ CH) ∧ JarAt H' j (n + 1 + i) ∧ Kp j H H')
      ⟨[], upd_same, rfl, (fun _ h => nomatch h), J1'.new hD, k1'.new hD⟩ (fun _ _ _ _ => trivial) ?_ ?_
    · rintro i x H2 H3 hi ⟨m, hD2, hl, hm, J2, k2⟩ ⟨rfl, rfl⟩
      refine ⟨rfl, _, rfl, _, rfl, j, 68, _, rfl, J2, by omega, by decide, by decide, fun r4 H4 h04 h14 J4 k4 => ?_⟩
      obtain ⟨c, hc, ec⟩ := CH_at h04 h14
      refine ⟨S CH, r4, c, rfl, rfl, by rw [S_len, CH_len, sizeLine_eq]; decide, ?_, ?_⟩
      · have e : ((r4.toNat : Nat) : Int) = r4 := by omega
        have z := atI_S (l := CH) (i := r4.toNat) (c := c) (by simpa [S] using ec)
        rw [e] at z
        exact z
      have hD4 : H4 D1 = some (.lst ((m.map sg).map V.str)) := k4 D1 _ nDj hD2
      refine ⟨_, hD4, by rw [List.length_map, List.length_map, hl, sizeLine_eq]; omega, m ++ [c], ?_, by rw [List.length_append, hl]; rfl, fun d hd => ?_, ?_, ?_⟩
      · rw [upd_same, List.map_append, List.map_append]; rfl
      · rcases List.mem_append.mp hd with h | h
        · exact hm d h
        · rw [List.mem_singleton.mp h]; exact hc
      · obtain ⟨a', b', c', e1, e2⟩ := J4.le (show n + 1 + i + 1 ≤ n + 1 + (i + 1) by omega)
        exact ⟨a', b', c', by rw [upd_ne nDj.symm]; exact e1, e2⟩
      · intro b o nb hb
        have nbD : b ≠ D1 := ne_of_none (k1' b o nb hb) hD
        rw [upd_ne nbD]; exact (k2.trans k4) b o nb hb
    · rintro H2 ⟨m, hD2, hl, hm, J2, k2⟩
      refine ⟨_, D1, m.map sg, rfl, rfl, .inl (SqL.of hD2), ?_, ?_⟩
      · rw [sum_sg, List.length_map]
        show m.length + m.length * 0 ≤ 16777216
        omega
      rw [join_sg]
      have hr : r.toNat < CH.length := by rw [CH_len]; omega
      have hr2 : (26 + r).toNat < CH.length := by rw [CH_len]; omega
      refine ⟨_, rfl, _, rfl, S CH, r, CH[r.toNat], rfl, rfl, by rw [S_len, CH_len, sizeLine_eq]; decide, ?_, _, rfl, _, rfl, _, _, rfl, rfl, ?_⟩
      · have e : ((r.toNat : Nat) : Int) = r := by omega
        have z := atI_S (l := CH) (i := r.toNat) (c := CH[r.toNat]) (by simp [hr])
        rw [e] at z
        exact z
      refine ⟨S CH, 26 + r, CH[(26 + r).toNat], rfl, rfl, by rw [S_len, CH_len, sizeLine_eq]; decide, ?_, _, _, rfl, rfl, by show 2 ≤ sizeLine; decide, _, rfl, _, _, rfl, rfl, ?_, ?_⟩
      · have e : (((26 + r).toNat : Nat) : Int) = 26 + r := by omega
        have z := atI_S (l := CH) (i := (26 + r).toNat) (c := CH[(26 + r).toNat]) (by simp [hr2])
        rw [e] at z
        exact z
      · show 2 + (S m).length ≤ sizeLine
        rw [S_len, hl, sizeLine_eq]; decide
      · show Q (.str (sg CH[r.toNat] ++ sg CH[(26 + r).toNat] ++ S m)) H2
        rw [sg_S, sg_S, S_cat, S_cat]
        refine q _ _ ⟨by rw [List.length_append, hl]; rfl, fun c hc => ?_⟩ (J2.le (by omega)) k2
        rcases List.mem_append.mp hc with h | h
        · rcases List.mem_append.mp h with h | h
          · rw [List.mem_singleton.mp h]; exact List.getElem_mem hr
          · rw [List.mem_singleton.mp h]; exact List.getElem_mem hr2
        · exact hm c h
theorem ok_bsteps {f : Addr} {fd : FuncData} (F : Fun K "_law_steps" "_law_steps" sLawSteps f fd) (T : Nms mg) (D : Cl P w K mg base 1 "_law_draw" spDraw) (G : Cl P w K mg base 3 "_law_step" spBstep) : FnOk P w K mg base CX0 4 f fd ["well", "pool"] (spBrow K) := by
  refine F.ok scLawSteps (fun vs H Q E h => ?_) (fun cdv A outer s H vs Q E hr h => ?_)
  · obtain ⟨j, n, l, rfl, _⟩ := h
    rfl
  · obtain ⟨j, n, l, rfl, hJ, hG, hn, q⟩ := h
    have nd := scLawSteps.nd
    refine ⟨_, pss_one (ps_ret (pe_callTy call_tuple_of (by rfl) T.tuple (by decide +kernel) (pa_cons (pe_lc (own := [("turn", 2)]) (g := gName 2) (tt := tYes) rfl nd
      (pi_range1 rfl T.range (pa_cons (pe_cl D hr (by decide) rfl (pa_cons (pv 0) (pa_cons pe_int pa_nil))) pa_nil)) (blkOk_by (N := ["well", "pool", "turn"]) (sc := defScope sLawSteps) (by decide +kernel)) (fun _ _ _ _ _ => pg_name (i := 2) nd rfl (Or.inl rfl)) (fun _ _ _ _ _ => pts_nil)
      (fun _ _ _ _ _ => pe_cl G hr (by decide) rfl (pa_cons (pv 0) (pa_cons (pv 1) pa_nil)))) pa_nil))), ?_⟩
    obtain ⟨xs0, hx0⟩ := hJ.lst
    refine ⟨_, rfl, j, 7, n, rfl, hJ, by omega, by decide, by decide, fun r H1 h0 h1 J1 k1 => ⟨_, rfl, by omega, by omega, fun D1 hD => ?_⟩⟩
    obtain ⟨xs1, hx1⟩ := J1.lst
    have nDj : D1 ≠ j := fun e => by rw [e, hx1] at hD; cases hD
    refine lc_it (walk_range (lo := 0) (n := r.toNat)) (fun i H' => ∃ (ps : List Addr) (sts : List Stp), H' D1 = some (.lst (ps.map V.ref)) ∧ Al H' ps sts ∧ sts.length = i ∧ JarAt H' j (n + 1 + 50 * i) ∧ Kp j H H')
      ⟨[], [], upd_same, .nil, rfl, J1.new hD, k1.new hD⟩ (fun _ _ _ _ => trivial) ?_ ?_
    · rintro i x H2 H3 hi ⟨ps, sts, hD2, al, hl, J2, k2⟩ ⟨rfl, rfl⟩
      obtain ⟨xs3, hx3⟩ := J2.lst
      refine ⟨rfl, _, rfl, _, rfl, j, _, l, rfl, J2, hG, by omega, fun p st H4 np ok hst J4 k4 => ?_⟩
      have hD4 : H4 D1 = some (.lst (ps.map V.ref)) := k4 D1 _ nDj hD2
      have kD : ∀ o, Kp D1 H4 (L2.upd H4 D1 o) := fun o => .upd
      refine ⟨_, hD4, by rw [List.length_map, al.len, sizeLine_eq]; omega, ps ++ [p], sts ++ [st], ?_, ?_, by rw [List.length_append, hl]; rfl, ?_, ?_⟩
      · rw [upd_same, List.map_append]; rfl
      · exact Al.snoc (hst.kp (kD _) hD4) ok ((al.kp k4 hx3).kp (kD _) hD4)
      · obtain ⟨a', b', c', e1, e2⟩ := J4.le (show n + 1 + 50 * i + 50 ≤ n + 1 + 50 * (i + 1) by omega)
        exact ⟨a', b', c', by rw [upd_ne nDj.symm]; exact e1, e2⟩
      · intro b o nb hb
        rw [upd_ne (ne_of_none (k1 b o nb hb) hD)]; exact (k2.trans k4) b o nb hb
    · rintro H2 ⟨ps, sts, hD2, al, hl, J2, k2⟩
      refine ⟨D1, _, rfl, .inl ⟨SqL.of hD2, fun t ht => ?_⟩⟩
      have kt : Ext H2 (L2.upd H2 t (.tup (ps.map V.ref))) := Ext.refl.new ht
      exact q t sts _ (k2.none ht ⟨_, hx0⟩ J2.lst) (by omega) ⟨ps, SqT.of upd_same, al.ext kt⟩ ((J2.ext kt).le (by omega)) (k2.trans kt.kp)
end
end Pd

set_option maxHeartbeats 4000000
namespace Pd
open PySem PySem.Spec PyProof.Rows L2 SX
theorem strOk_CH {l : List Nat} (h : ∀ c ∈ l, c ∈ CH) : PyData.strOk (S l) = true := by
  unfold PyData.strOk
  rw [← Array.all_toList, List.all_eq_true]
  exact fun c hc => decide_eq_true (Nat.lt_trans (CH_lt c (h c hc)) (by decide))
theorem Ext.new' {H H' : Hp} {D : Addr} {o : HO} (a : Ext H H') (h : H' D = none) : Ext H (upd H' D o) := fun b u e => by
  rw [upd_ne (ne_of_none (a b u e) h)]; exact a b u e
/-! ### steps as data -/
def stpData : Stp → PyData
  | .low => .tuple [.str "lower"]
  | .swap a b => .tuple [.str "swap", .str (sg a), .str (sg b)]
  | .drop cs => .tuple [.str "drop", .str (S cs)]
  | .lead a => .tuple [.str "lead", .str (sg a)]
  | .once a => .tuple [.str "once", .str (sg a)]
  | .cut n => .tuple [.str "cut", .int (n : Nat)]
theorem stp_dp {K : PySem.W.Frag} {H : Hp} {p : Addr} {st : Stp} (h : StpAt H p st) : Dp K H (.ref p) (stpData st) := by
  have e := h.seq (K := K)
  cases st with
  | low => exact .tup e (.cons (.str _) .nil)
  | swap a b => exact .tup e (.cons (.str _) (.cons (.str _) (.cons (.str _) .nil)))
  | drop cs => exact .tup e (.cons (.str _) (.cons (.str _) .nil))
  | lead a => exact .tup e (.cons (.str _) (.cons (.str _) .nil))
  | once a => exact .tup e (.cons (.str _) (.cons (.str _) .nil))
  | cut n => exact .tup e (.cons (.str _) (.cons (.int _) .nil))
theorem al_dp {K : PySem.W.Frag} {H : Hp} : ∀ {ps : List Addr} {sts : List Stp}, Al H ps sts → DpAll K H (ps.map V.ref) (sts.map stpData)
  | _, _, .nil => .nil
  | _, _, .cons h _ r => .cons (stp_dp h) (al_dp r)
theorem stp_shape {st : Stp} (ok : st.ok) : (stpData st).canLay0 = true ∧ (stpData st).depth = 1 := by
  have one : ∀ {c : Nat}, c ∈ CH → PyData.strOk (sg c) = true := fun {c} h => strOk_CH (l := [c]) fun x hx => by rw [List.mem_singleton.mp hx]; exact h
  have w : PyData.strOk "lower" = true ∧ PyData.strOk "swap" = true ∧ PyData.strOk "drop" = true ∧ PyData.strOk "lead" = true ∧ PyData.strOk "once" = true ∧ PyData.strOk "cut" = true := by decide +kernel
  cases st with
  | low => simp [stpData, PyData.canLay0, PyData.canLayAll0, PyData.depth, PyData.depthAll, w]
  | swap a b => simp [stpData, PyData.canLay0, PyData.canLayAll0, PyData.depth, PyData.depthAll, w, one ok.1, one ok.2]
  | drop cs => simp [stpData, PyData.canLay0, PyData.canLayAll0, PyData.depth, PyData.depthAll, w, strOk_CH ok.2.2.2]
  | lead a => simp [stpData, PyData.canLay0, PyData.canLayAll0, PyData.depth, PyData.depthAll, w, one ok]
  | once a => simp [stpData, PyData.canLay0, PyData.canLayAll0, PyData.depth, PyData.depthAll, w, one ok]
  | cut n => simp [stpData, PyData.canLay0, PyData.canLayAll0, PyData.depth, PyData.depthAll, w]
theorem row_shape {sts : List Stp} (ok : ∀ st ∈ sts, st.ok) : SeqAt.shaped (.tuple (sts.map stpData)) = true := by
  have key : PyData.canLayAll0 (sts.map stpData) = true ∧ PyData.depthAll (sts.map stpData) ≤ 1 := by
    induction sts with
    | nil => exact ⟨rfl, Nat.zero_le _⟩
    | cons st sts ih =>
      obtain ⟨h1, h2⟩ := ih fun s hs => ok s (List.mem_cons_of_mem _ hs)
      obtain ⟨h3, h4⟩ := stp_shape (ok st (List.mem_cons_self ..))
      refine ⟨?_, ?_⟩
      · rw [List.map_cons]; simp only [PyData.canLayAll0, h3, h1, Bool.and_self]
      · rw [List.map_cons]; simp only [PyData.depthAll, h4]; omega
  unfold SeqAt.shaped
  simp only [PyData.canLay0, PyData.depth, key.1, Bool.true_and]
  exact decide_eq_true (by have := key.2; omega)
theorem op_neDK {X : Cx} {K : PySem.W.Frag} (h : X.K = K) (hu : X.A.units + 64 < cLine) : OpR X (compareOp .NotEq) (rNeD K) := by
  subst h; exact op_neD hu
theorem ext_kp {j : Addr} {H1 H2 H3 : Hp} (a : Ext H1 H2) (b : Kp j H2 H3) (n : H1 j = none) : Ext H1 H3 := fun c o e => b c o (by rintro rfl; rw [e] at n; cases n) (a c o e)
/-- rows, and foldings of them -/
inductive Rw (K : PySem.W.Frag) (H : Hp) : List Addr → List (List Stp) → Prop where
  | nil : Rw K H [] []
  | cons {r : Addr} {sts : List Stp} {rs : List Addr} {rws : List (List Stp)} (h : RowAt K H r sts) (l : sts.length ≤ 6) (t : Rw K H rs rws) : Rw K H (r :: rs) (sts :: rws)
theorem Rw.ext {K : PySem.W.Frag} {H H' : Hp} : ∀ {rs : List Addr} {rws : List (List Stp)}, Rw K H rs rws → Ext H H' → Rw K H' rs rws
  | _, _, .nil, _ => .nil
  | _, _, .cons h l t, k => .cons (h.ext k) l (t.ext k)
theorem Rw.kp {K : PySem.W.Frag} {H H' : Hp} {j : Addr} {ys : List V} (hj : H j = some (.lst ys)) : ∀ {rs : List Addr} {rws : List (List Stp)}, Rw K H rs rws → Kp j H H' → Rw K H' rs rws
  | _, _, .nil, _ => .nil
  | _, _, .cons h l t, k => .cons (h.kp k hj) l (t.kp hj k)
theorem Rw.snoc {K : PySem.W.Frag} {H : Hp} {r : Addr} {sts : List Stp} (h : RowAt K H r sts) (l : sts.length ≤ 6) : ∀ {rs : List Addr} {rws : List (List Stp)}, Rw K H rs rws → Rw K H (rs ++ [r]) (rws ++ [sts])
  | _, _, .nil => .cons h l .nil
  | _, _, .cons h' l' t => .cons h' l' (t.snoc h l)
theorem Rw.len {K : PySem.W.Frag} {H : Hp} : ∀ {rs : List Addr} {rws : List (List Stp)}, Rw K H rs rws → rs.length = rws.length
  | _, _, .nil => rfl
  | _, _, .cons _ _ t => congrArg (· + 1) t.len
theorem Rw.get {K : PySem.W.Frag} {H : Hp} : ∀ {rs : List Addr} {rws : List (List Stp)} {i : Nat} {r : Addr}, Rw K H rs rws → rs[i]? = some r → ∃ sts, rws[i]? = some sts ∧ RowAt K H r sts ∧ sts.length ≤ 6
  | _, _, _, _, .nil, e => by simp at e
  | _, _, 0, _, .cons h l t, e => by
    simp at e; subst e
    exact ⟨_, by simp, h, l⟩
  | _, _, i + 1, _, .cons h l t, e => by
    obtain ⟨sts, e1, h1⟩ := t.get (i := i) (by simpa using e)
    exact ⟨sts, by simpa using e1, h1⟩
end Pd

set_option maxHeartbeats 4000000
namespace Pd
open PySem PySem.Spec PyProof.Rows L2 SX
/-! ### what is written of steps and foldings -/
def tild (c : Nat) : Nat := swapC 32 126 c
def wordL : Stp → List Nat
  | .low => [108, 111, 119, 101, 114] | .swap _ _ => [115, 119, 97, 112] | .drop _ => [100, 114, 111, 112] | .lead _ => [108, 101, 97, 100] | .once _ => [111, 110, 99, 101] | .cut _ => [99, 117, 116]
theorem word_S (st : Stp) : wordOf st = S (wordL st) := by
  have h : ("lower" : Str) = S [108, 111, 119, 101, 114] ∧ ("swap" : Str) = S [115, 119, 97, 112] ∧ ("drop" : Str) = S [100, 114, 111, 112] ∧ ("lead" : Str) = S [108, 101, 97, 100] ∧ ("once" : Str) = S [111, 110, 99, 101] ∧ ("cut" : Str) = S [99, 117, 116] := by decide +kernel
  obtain ⟨h1, h2, h3, h4, h5, h6⟩ := h
  cases st
  · exact h1
  · exact h2
  · exact h3
  · exact h4
  · exact h5
  · exact h6
def argL : Stp → List (List Nat)
  | .low => [] | .swap a b => [[tild a], [tild b]] | .drop cs => [cs.map tild] | .lead a => [[tild a]] | .once a => [[tild a]] | .cut n => [[48 + n]]
def partL (st : Stp) : List Nat := TL.joinL [32] (wordL st :: argL st)
def plainL : List Nat := [112, 108, 97, 105, 110]
def ftext (sts : List Stp) : List Nat := if sts = [] then plainL else TL.joinL [59, 32] (sts.map partL)
/-- a value and the word that is written of it -/
def WordIs (v : V) (x : List Nat) : Prop := (∃ l : List Nat, v = .str (S l) ∧ l.length ≤ 60 ∧ x = l.map tild) ∨ ∃ n : Nat, 1 ≤ n ∧ n ≤ 9 ∧ v = .int (n : Nat) ∧ x = [48 + n]
theorem arg_len (st : Stp) : (argL st).length = (stpVals st).tail.length := by cases st <;> rfl
theorem arg_get {st : Stp} (ok : st.ok) {i : Nat} {v : V} (h : (stpVals st).tail[i]? = some v) : ∃ x, (argL st)[i]? = some x ∧ WordIs v x := by
  have one : ∀ c : Nat, WordIs (.str (sg c)) [tild c] := fun c => .inl ⟨[c], rfl, by simp, rfl⟩
  cases st with
  | low => simp [stpVals] at h
  | swap a b =>
    match i, h with
    | 0, h => simp [stpVals] at h; subst h; exact ⟨_, rfl, one a⟩
    | 1, h => simp [stpVals] at h; subst h; exact ⟨_, rfl, one b⟩
    | i + 2, h => simp [stpVals] at h
  | drop cs =>
    match i, h with
    | 0, h => simp [stpVals] at h; subst h; exact ⟨_, rfl, .inl ⟨cs, rfl, Nat.le_trans ok.2.1 (by decide), rfl⟩⟩
    | i + 1, h => simp [stpVals] at h
  | lead a =>
    match i, h with
    | 0, h => simp [stpVals] at h; subst h; exact ⟨_, rfl, one a⟩
    | i + 1, h => simp [stpVals] at h
  | once a =>
    match i, h with
    | 0, h => simp [stpVals] at h; subst h; exact ⟨_, rfl, one a⟩
    | i + 1, h => simp [stpVals] at h
  | cut n =>
    match i, h with
    | 0, h => simp [stpVals] at h; subst h; exact ⟨_, rfl, .inr ⟨n, ok.1, ok.2, rfl, rfl⟩⟩
    | i + 1, h => simp [stpVals] at h
theorem word_tild (st : Stp) : (wordL st).map tild = wordL st := by cases st <;> rfl
theorem word_len (st : Stp) : (wordL st).length ≤ 5 := by cases st <;> simp [wordL]
theorem word_get {st : Stp} (ok : st.ok) {i : Nat} {v : V} (h : (stpVals st)[i]? = some v) : ∃ x, (wordL st :: argL st)[i]? = some x ∧ WordIs v x := by
  cases i with
  | zero =>
    have e : (stpVals st)[0]? = some (.str (wordOf st)) := by cases st <;> rfl
    rw [e] at h
    cases h
    exact ⟨_, rfl, .inl ⟨wordL st, by rw [word_S], Nat.le_trans (word_len st) (by decide), (word_tild st).symm⟩⟩
  | succ i =>
    have e : (stpVals st)[i + 1]? = (stpVals st).tail[i]? := by cases st <;> rfl
    rw [e] at h
    obtain ⟨x, hx, hw⟩ := arg_get ok h
    exact ⟨x, by simpa using hx, hw⟩
theorem arg_lens {st : Stp} (ok : st.ok) : ∀ x ∈ argL st, x.length ≤ 10 := by
  intro x hx
  cases st with
  | low => exact nomatch hx
  | swap a b => simp [argL] at hx; rcases hx with rfl | rfl <;> simp
  | drop cs => simp [argL] at hx; subst hx; rw [List.length_map]; exact ok.2.1
  | lead a => simp [argL] at hx; subst hx; simp
  | once a => simp [argL] at hx; subst hx; simp
  | cut n => simp [argL] at hx; subst hx; simp
theorem arg_few (st : Stp) : (argL st).length ≤ 2 := by cases st <;> simp [argL]
theorem sum_le {m : Nat} : ∀ {xs : List (List Nat)}, (∀ x ∈ xs, x.length ≤ m) → (xs.map (·.length)).sum ≤ xs.length * m
  | [], _ => by simp
  | x :: xs, h => by
    have h1 := h x (List.mem_cons_self ..)
    have h2 := sum_le (xs := xs) fun y hy => h y (List.mem_cons_of_mem _ hy)
    rw [List.map_cons, List.sum_cons, List.length_cons, Nat.add_mul]
    omega
theorem sum_S (xs : List (List Nat)) : ((xs.map S).map (·.length)).sum = (xs.map (·.length)).sum := by
  rw [List.map_map]
  congr 1
theorem joinL_len (sep : List Nat) : ∀ xs : List (List Nat), (TL.joinL sep xs).length ≤ (xs.map (·.length)).sum + xs.length * sep.length
  | [] => by simp [TL.joinL]
  | [x] => by simp [TL.joinL]
  | x :: y :: r => by
    have ih := joinL_len sep (y :: r)
    show (x ++ (sep ++ TL.joinL sep (y :: r))).length ≤ _
    rw [List.length_append, List.length_append, List.map_cons, List.sum_cons, List.length_cons, Nat.add_mul]
    omega
theorem part_len {st : Stp} (ok : st.ok) : (partL st).length ≤ 33 := by
  have h1 := joinL_len [32] (wordL st :: argL st)
  have h2 := sum_le (m := 10) (arg_lens ok)
  have h3 := word_len st
  have h4 := arg_few st
  rw [List.map_cons, List.sum_cons, List.length_cons] at h1
  have h5 : (argL st).length * 10 ≤ 20 := by omega
  have h6 : ((argL st).length + 1) * ([32] : List Nat).length ≤ 3 := by show ((argL st).length + 1) * 1 ≤ 3; omega
  show (TL.joinL [32] (wordL st :: argL st)).length ≤ 33
  omega
theorem parts_len {sts : List Stp} (ok : ∀ st ∈ sts, st.ok) : ∀ x ∈ sts.map partL, x.length ≤ 33 := fun x hx => by
  obtain ⟨st, h, rfl⟩ := List.mem_map.mp hx
  exact part_len (ok st h)
theorem ftext_len {sts : List Stp} (ok : ∀ st ∈ sts, st.ok) (h6 : sts.length ≤ 6) : (ftext sts).length ≤ 300 := by
  unfold ftext
  split
  · decide
  · have h1 := joinL_len [59, 32] (sts.map partL)
    have h2 := sum_le (parts_len ok)
    rw [List.length_map] at h1 h2
    have h3 : sts.length * ([59, 32] : List Nat).length ≤ 12 := by show sts.length * 2 ≤ 12; omega
    omega
theorem tild_S (l : List Nat) : Txt.replace (S l) " " "~" = S (l.map tild) := by
  have e1 : (" " : Str) = sg 32 := by decide +kernel
  have e2 : ("~" : Str) = sg 126 := by decide +kernel
  rw [e1, e2, replace_mk]
  rfl
theorem digit_S : ∀ n : Nat, 1 ≤ n → n ≤ 9 → (toString ((n : Nat) : Int) : Str) = S [48 + n] := by
  intro n h1 h2
  obtain rfl | rfl | rfl | rfl | rfl | rfl | rfl | rfl | rfl : n = 1 ∨ n = 2 ∨ n = 3 ∨ n = 4 ∨ n = 5 ∨ n = 6 ∨ n = 7 ∨ n = 8 ∨ n = 9 := by omega
  all_goals decide +kernel
/-- the tuple behind its first item -/
theorem slice1 {K : PySem.W.Frag} {H : Hp} {r : Addr} {xs : List V} {Q : VK} (hR : SqT K H r xs) (h1 : 1 ≤ xs.length) (q : ∀ r' H', Ext H H' → SqT K H' r' xs.tail → Q (.ref r') H') : rSlA K (.ref r) (some 1) none H Q := by
  have e1 : HT.sIx xs.length 0 (some 1) = 1 := by
    have := HT.sIx_nat xs.length 0 1
    rw [show ((1 : Nat) : Int) = 1 from rfl] at this
    rw [this]; omega
  refine ⟨r, _, rfl, hR, fun hw => ?_, fun hw p np => ?_⟩
  · have e := hw.1
    rw [e1] at e
    omega
  · refine q p _ (Ext.refl.new np) (SqT.of ?_)
    rw [upd_same]
    unfold cutV
    rw [e1, HT.sIx_none, List.take_of_length_le (by rw [List.length_drop]; exact Nat.le_refl _), List.drop_one]
end Pd

set_option maxHeartbeats 4000000
namespace Pd
open PySem PySem.Spec PyProof.Rows L2 SX
/-- __len__ and steps() of a folding -/
def spFLen (K : PySem.W.Frag) (C : Addr) : Sp := fun vs H Q _ => ∃ (o r : Addr) (sts : List Stp), vs = [.ref o] ∧ FoldAt K C H o r sts ∧ Q (.int (sts.length : Nat)) H
def spFSteps (K : PySem.W.Frag) (C : Addr) : Sp := fun vs H Q _ => ∃ (o r : Addr) (sts : List Stp), vs = [.ref o] ∧ FoldAt K C H o r sts ∧ Q (.ref r) H
section
variable {P : Program} {w : World} {K : PySem.W.Frag} {mg : Str → Option Value} {base : Heap}
theorem ok_flen {f Cf : Addr} {fd : FuncData} (F : Fun K "__len__" "Folding.__len__" sFoldingLen f fd) (T : Nms mg) (Z : Fcl K mg Cf) : FnOk P w K mg base CX0 1 f fd ["self"] (spFLen K Cf) := by
  refine F.ok scFoldingLen (fun vs H Q E h => ?_) (fun cdv A outer s H vs Q E hr h => ?_)
  · obtain ⟨o, r, sts, rfl, _⟩ := h
    rfl
  · obtain ⟨o, r, sts, rfl, ⟨⟨dx, e⟩, ⟨ps, hps, al⟩, _⟩, q⟩ := h
    refine ⟨_, pss_one (ps_ret (pe_callB call_len_seq (by rfl) T.len PySem.boot_len (pa_cons (pe_fld (pv 0) rfl) pa_nil))), ?_⟩
    refine ⟨_, rfl, o, Cf, dx, _, _, rfl, e, Z.cl, Z.nS, rfl, r, _, rfl, .inr hps, ?_⟩
    rw [List.length_map, al.len]
    exact q
theorem ok_fsteps {f Cf : Addr} {fd : FuncData} (F : Fun K "steps" "Folding.steps" sFoldingSteps f fd) (Z : Fcl K mg Cf) : FnOk P w K mg base CX0 1 f fd ["self"] (spFSteps K Cf) := by
  refine F.ok scFoldingSteps (fun vs H Q E h => ?_) (fun cdv A outer s H vs Q E hr h => ?_)
  · obtain ⟨o, r, sts, rfl, _⟩ := h
    rfl
  · obtain ⟨o, r, sts, rfl, ⟨⟨dx, e⟩, _, _⟩, q⟩ := h
    exact ⟨_, pss_one (ps_ret (pe_fld (pv 0) rfl)), _, rfl, o, Cf, dx, _, _, rfl, e, Z.cl, Z.nS, rfl, q⟩
end
/-- the class Folding: its length, its steps -/
structure FolS (P : Program) (w : World) (K : PySem.W.Frag) (mg : Str → Option Value) (base : Heap) (C : Addr) : Prop where
  cl : Cls K C
  len : ∃ (g : Addr) (fd : FuncData), PySem.W.findIn K (.ref C) "__len__" = some (some (.ref g)) ∧ PySem.W.isFn K (.ref g) = true ∧ FnOk P w K mg base CX0 1 g fd ["self"] (spFLen K C) ∧ Binds K fd ["self"] []
  steps : ∃ (g : Addr) (fd : FuncData), Meth K C "steps" g ∧ FnOk P w K mg base CX0 1 g fd ["self"] (spFSteps K C) ∧ Binds K fd ["self"] []
end Pd

set_option maxHeartbeats 4000000
namespace Pd
open PySem PySem.Spec PyProof.Rows L2 SX
theorem slice1' {K : PySem.W.Frag} {σ : L2.St} {H : Hp} {r : Addr} {xs : List V} {Q : VK} (hR : SqT K H r xs) (h1 : 1 ≤ xs.length) (q : ∀ r' H', Ext H H' → SqT K H' r' xs.tail → Q (.ref r') H') : tNoPart σ H fun u H3 => rSlA K (.ref r) (some 1) u H3 Q := slice1 hR h1 q
def spWord : Sp := fun vs H Q _ => ∃ v x, vs = [v] ∧ WordIs v x ∧ Q (.str (S x)) H
def spPart : Sp := fun vs H Q _ => ∃ (p : Addr) (st : Stp), vs = [.ref p] ∧ StpAt H p st ∧ st.ok ∧ ∀ H', Ext H H' → Q (.str (S (partL st))) H'
def spFText (K : PySem.W.Frag) (C : Addr) : Sp := fun vs H Q _ => ∃ (o r : Addr) (sts : List Stp), vs = [.ref o] ∧ FoldAt K C H o r sts ∧ ∀ H', Ext H H' → Q (.str (S (ftext sts))) H'
/-- the texts' constants -/
structure CstT (mg : Str → Option Value) : Prop where
  between : ∃ t, mg "BETWEEN_STEPS" = some (.str "; " t)
  without : ∃ t, mg "WITHOUT_STEPS" = some (.str "plain" t)
theorem semi_S : ("; " : Str) = S [59, 32] := by decide +kernel
theorem space_S : (" " : Str) = S [32] := by decide +kernel
theorem plain_S : ("plain" : Str) = S plainL := by decide +kernel
theorem Al.get' {H : Hp} : ∀ {ps : List Addr} {sts : List Stp} {i : Nat} {p : Addr}, Al H ps sts → ps[i]? = some p → ∃ st, sts[i]? = some st ∧ StpAt H p st ∧ st.ok := Al.get
section
variable {P : Program} {w : World} {K : PySem.W.Frag} {mg : Str → Option Value} {base : Heap}
theorem ok_word {f : Addr} {fd : FuncData} (F : Fun K "_word_of" "_word_of" sWordOf f fd) (T : Nms mg) : FnOk P w K mg base CX0 1 f fd ["value"] spWord := by
  refine fnOk_1 F scWordOf (by decide +kernel) (by decide) (fun vs H Q E h => ?_) (fun cdv A outer s H vs Q E hr h => ?_)
  · obtain ⟨v, x, rfl, _⟩ := h
    rfl
  · obtain ⟨v, x, rfl, hw, q⟩ := h
    refine ⟨_, pssn_cons (psn_if (ptn (pt_val (pe_callB call_isi (by rfl) T.isi (by decide +kernel) (pa_cons (pv 0) (pa_cons (pe_bltn (v := .ty "int") (by rfl) T.int (by decide +kernel) rfl) pa_nil)))))
        (pssn_one (psn_ret (pen (pe_callTy call_str_int (by rfl) T.str (by decide +kernel) (pa_cons (pv 0) pa_nil))))) (pssn pss_nil))
      (pssn_one (psn_ret (pen_replC (Nat.le_refl 1) (pv 0)))), ?_⟩
    rcases hw with ⟨l, rfl, hl, rfl⟩ | ⟨n, h1, h9, rfl, rfl⟩
    · refine ⟨_, rfl, _, _, _, _, false, rfl, .ty "int", .base (.str _), kit_ty (by decide +kernel), false, rfl, iteF ?_⟩
      refine ⟨_, rfl, S l, rfl, ?_, ?_⟩
      · have e : ("~" : Str).length = 1 := by decide +kernel
        rw [S_len, e]; omega
      · rw [tild_S]; exact q
    · refine ⟨_, rfl, _, _, _, _, true, rfl, .ty "int", .base (.int _), kit_ty (by decide +kernel), true, rfl, iteT ?_⟩
      refine ⟨_, rfl, _, rfl, ?_, ?_⟩
      · have : ((n : Nat) : Int).natAbs = n := by omega
        rw [this]
        exact Nat.lt_of_le_of_lt (Nat.log2_le_self n) (by omega)
      · rw [digit_S n h1 h9]; exact q
theorem ok_part {f : Addr} {fd : FuncData} (F : Fun K "_part_of" "_part_of" sPartOf f fd) (W : Cl P w K mg base 1 "_word_of" spWord) : FnOk P w K mg base CX0 2 f fd ["step"] spPart := by
  refine F.ok scPartOf (fun vs H Q E h => ?_) (fun cdv A outer s H vs Q E hr h => ?_)
  · obtain ⟨p, st, rfl, _⟩ := h
    rfl
  · obtain ⟨p, st, rfl, hst, hok, q⟩ := h
    have nd := scPartOf.nd
    refine ⟨_, pss_one (ps_ret (pe_join pe_str (pe_op op_cat (pe_lst (pa_cons (pe_ix ix_tup (pv 0) pe_int (fun _ _ => rfl)) pa_nil))
      (pe_lc (own := [("value", 1)]) (g := gName 1) (tt := tYes) rfl nd (pi_tup (pe_slice sl_tupA (pv 0) (po_some pe_int) po_none)) (blkOk_by (N := ["step", "value"]) (sc := defScope sPartOf) (by decide +kernel)) (fun _ _ _ _ _ => pg_name (i := 1) nd rfl (Or.inl rfl)) (fun _ _ _ _ _ => pts_nil)
        (fun _ _ _ _ _ => pe_cl W hr (by decide) rfl (pa_cons (pv 1) pa_nil)))))), ?_⟩
    refine ⟨⟨_, rfl⟩, _, rfl, p, stpVals st, 0, .str (wordOf st), rfl, rfl, hst.seq, word_at st, by show 1 ≤ sizeLine; decide, fun a ha => ?_⟩
    have ka : Ext H (L2.upd H a (.lst [V.str (wordOf st)])) := Ext.refl.new ha
    refine ⟨_, rfl, _, rfl, ?_⟩
    refine slice1' (K := K) ((hst.ext ka).seq) (by cases st <;> simp [stpVals]) fun r' H1 k1 hr' => ⟨r', rfl, ⟨_, hr'⟩, fun D hD => ?_⟩
    refine lc_it (walk_tup (xs := (stpVals st).tail)) (fun i H' => H' D = some (.lst ((((argL st).take i).map S).map V.str)) ∧ Ext H1 H') ⟨upd_same, Ext.refl.new hD⟩ (fun i H' _ z => sqT_keep hr' fun o e => z.2 r' o e) ?_ ?_
    · rintro i x H2 H3 hi ⟨h2, k2⟩ ⟨rfl, hx⟩
      obtain ⟨y, hy, hw⟩ := arg_get hok hx
      refine ⟨rfl, _, rfl, x, y, rfl, hw, _, h2, ?_, ?_, k2.new hD⟩
      · rw [List.length_map, List.length_map, sizeLine_eq]
        have := List.length_take_le' i (argL st)
        have := arg_few st
        omega
      · rw [upd_same, List.take_succ, hy, List.map_append, List.map_append]
        rfl
    · rintro H2 ⟨h2, k2⟩
      rw [← arg_len, List.take_length] at h2
      have ha2 : H2 a = some (.lst [V.str (wordOf st)]) := k2 a _ (k1 a _ upd_same)
      refine ⟨a, D, _, _, rfl, rfl, ha2, h2, ?_, fun e he => ?_⟩
      · have := arg_few st
        rw [List.length_map, List.length_map, sizeLine_eq]
        show 1 + (argL st).length ≤ _
        omega
      refine ⟨_, e, (wordL st :: argL st).map S, rfl, rfl, .inl (SqL.of ?_), ?_, ?_⟩
      · rw [upd_same, List.map_cons, List.map_cons, word_S]
        rfl
      · rw [sum_S, List.length_map, List.map_cons, List.sum_cons, List.length_cons]
        have h1 := sum_le (m := 10) (arg_lens hok)
        have h3 := word_len st
        have h4 := arg_few st
        have e : (" " : Str).length = 1 := by decide +kernel
        rw [e]
        omega
      · rw [space_S, join_S]
        have k3 : Ext H H2 := (ka.trans k1).trans k2
        exact q _ fun b o z => by rw [upd_ne (ne_of_none (k3 b o z) he)]; exact k3 b o z
theorem ok_ftext {f Cf : Addr} {fd : FuncData} (F : Fun K "folding_text" "folding_text" sFoldingText f fd) (T : Nms mg) (Ct : CstT mg) (Y : FolS P w K mg base Cf) (W : Cl P w K mg base 2 "_part_of" spPart) : FnOk P w K mg base CX0 3 f fd ["folding"] (spFText K Cf) := by
  refine F.ok scFoldingText (fun vs H Q E h => ?_) (fun cdv A outer s H vs Q E hr h => ?_)
  · obtain ⟨o, r, sts, rfl, _⟩ := h
    rfl
  · obtain ⟨o, r, sts, rfl, hF, q⟩ := h
    have nd := scFoldingText.nd
    obtain ⟨tb, hb⟩ := Ct.between
    obtain ⟨tw, hw⟩ := Ct.without
    obtain ⟨gl, fdl, fl, il, Fl, bl⟩ := Y.len
    obtain ⟨gs, fds, ms, Fs, bs⟩ := Y.steps
    refine ⟨_, pss_cons (ps_if (pt_cmpR op_eq (pe_callB (call_lenOwn fl il (FnOk.raw Fl bl .nil) (hr.mono (by decide)) pass0) (by rfl) T.len PySem.boot_len (pa_cons (pv 0) pa_nil)) pe_int (nomark _)) (pss_one (ps_ret (pe_glob (v := .str "plain") rfl hw ⟨_, rfl⟩))) pss_nil)
      (pss_one (ps_ret (pe_join (pe_glob (v := .str "; ") rfl hb ⟨_, rfl⟩)
        (pe_lc (own := [("step", 1)]) (g := gName 1) (tt := tYes) rfl nd (pi_tup (pe_meth0 (pv 0) Y.cl ms Fs (hr.mono (by decide)) bs .nil pass0)) (blkOk_by (N := ["folding", "step"]) (sc := defScope sFoldingText) (by decide +kernel)) (fun _ _ _ _ _ => pg_name (i := 1) nd rfl (Or.inl rfl)) (fun _ _ _ _ _ => pts_nil)
        (fun _ _ _ _ _ => pe_cl W hr (by decide) rfl (pa_cons (pv 1) pa_nil)))))), ?_⟩
    obtain ⟨⟨dx, e⟩, ⟨ps, hps, al⟩, h6⟩ := id hF
    refine ⟨_, rfl, o, dx, _, rfl, e, o, r, sts, rfl, hF, sts.length, rfl, Nat.lt_of_le_of_lt h6 (by decide), rfl, _, rfl, ?_⟩
    by_cases hs : sts = []
    · subst hs
      refine iteT ?_
      have z := q H .refl
      rw [show ftext [] = plainL from rfl, ← plain_S] at z
      exact z
    · have hl : sts.length ≠ 0 := fun e => hs (List.eq_nil_of_length_eq_zero e)
      rw [decide_eq_false (show ¬ V.int ((sts.length : Nat) : Int) = V.int 0 from fun h => hl (by injection h with h; omega))]
      refine iteF ⟨⟨_, rfl⟩, _, rfl, o, dx, _, rfl, e, rfl, o, r, sts, rfl, hF, r, rfl, ⟨_, hps⟩, fun D hD => ?_⟩
      refine lc_it (walk_tup (xs := ps.map V.ref)) (fun i H' => H' D = some (.lst ((((sts.take i).map partL).map S).map V.str)) ∧ Ext H H') ⟨upd_same, Ext.refl.new hD⟩ (fun i H' _ z => sqT_keep hps fun o e => z.2 r o e) ?_ ?_
      · rintro i x H2 H3 hi ⟨h2, k2⟩ ⟨rfl, hx⟩
        rw [List.getElem?_map] at hx
        obtain ⟨p, hp, rfl⟩ := Option.map_eq_some_iff.mp hx
        obtain ⟨st, es, hst, ok⟩ := al.get hp
        refine ⟨rfl, _, rfl, p, st, rfl, hst.ext k2, ok, fun H4 k4 => ⟨_, k4 D _ h2, ?_, ?_, (k2.trans k4).new hD⟩⟩
        · rw [List.length_map, List.length_map, List.length_map, sizeLine_eq]
          have := List.length_take_le' i sts
          omega
        · rw [upd_same, List.take_succ, es, List.map_append, List.map_append, List.map_append]
          rfl
      · rintro H2 ⟨h2, k2⟩
        rw [List.length_map, al.len, List.take_length] at h2
        refine ⟨_, D, (sts.map partL).map S, rfl, rfl, .inl (SqL.of h2), ?_, ?_⟩
        · rw [sum_S, List.length_map, List.length_map]
          have h1 := sum_le (parts_len al.ok)
          rw [List.length_map] at h1
          have e : ("; " : Str).length = 2 := by decide +kernel
          rw [e]
          omega
        · rw [semi_S, join_S]
          have z := q H2 k2
          unfold ftext at z
          rw [if_neg hs] at z
          exact z
end
end Pd

set_option maxHeartbeats 4000000
namespace Pd
open PySem PySem.Spec PyProof.Rows L2 SX
def spLText (K : PySem.W.Frag) : Sp := fun vs H Q _ => ∃ (r : Addr) (sts : List Stp), vs = [.ref r] ∧ RowAt K H r sts ∧ sts.length ≤ 6 ∧ ∀ H', Ext H H' → Q (.str (S (ftext sts))) H'
theorem joinL_one (sep : List Nat) (x : List Nat) : TL.joinL sep [x] = x := rfl
/-- two values that are the same at any depth below n -/
inductive Sm (K : PySem.W.Frag) (H : Hp) : Nat → V → V → Prop where
  | str {n : Nat} (z : Str) : Sm K H n (.str z) (.str z)
  | int {n : Nat} (i : Int) : Sm K H n (.int i) (.int i)
  | tup {n : Nat} {a b : Addr} {xs ys : List V} (h1 : SqT K H a xs) (h2 : SqT K H b ys) (hl : xs.length = ys.length) (hb : xs.length ≤ 1000) (h : ∀ (i : Nat) (x y : V), xs[i]? = some x → ys[i]? = some y → Sm K H n x y) : Sm K H (n + 1) (.ref a) (.ref b)
theorem Sm.ext {K : PySem.W.Frag} {H H' : Hp} (k : Ext H H') : ∀ {n : Nat} {x y : V}, Sm K H n x y → Sm K H' n x y
  | _, _, _, .str z => .str z
  | _, _, _, .int i => .int i
  | _, _, _, .tup h1 h2 hl hb h => .tup (sqT_keep h1 fun o e => k _ o e) (sqT_keep h2 fun o e => k _ o e) hl hb fun i x y e1 e2 => (h i x y e1 e2).ext k
def spSame (K : PySem.W.Frag) (n : Nat) : Sp := fun vs H Q _ => ∃ x y, vs = [x, y] ∧ Sm K H n x y ∧ ∀ H', Ext H H' → Q (.bl true) H'
theorem sm_vals {K : PySem.W.Frag} {H : Hp} {p : Addr} {st : Stp} (h : StpAt H p st) : Sm K H 1 (.ref p) (.ref p) := by
  refine .tup h.seq h.seq rfl (by cases st <;> simp [stpVals]) fun i x y e1 e2 => ?_
  rw [e1] at e2
  cases e2
  have key : ∀ v ∈ stpVals st, Sm K H 0 v v := by
    intro v hv
    cases st <;> simp [stpVals] at hv <;> (try rcases hv with rfl | rfl | rfl) <;> (try rcases hv with rfl | rfl) <;> (try subst hv) <;> first | exact .str _ | exact .int _
  exact key x (List.mem_of_getElem? e1)
theorem sm_row {K : PySem.W.Frag} {H : Hp} {r : Addr} {sts : List Stp} (h : RowAt K H r sts) (h6 : sts.length ≤ 6) : Sm K H 2 (.ref r) (.ref r) := by
  obtain ⟨ps, hp, al⟩ := h
  refine .tup hp hp rfl (by rw [List.length_map, al.len]; omega) fun i x y e1 e2 => ?_
  rw [e1] at e2
  cases e2
  rw [List.getElem?_map] at e1
  obtain ⟨p, hp', rfl⟩ := Option.map_eq_some_iff.mp e1
  obtain ⟨st, _, hst, _⟩ := al.get hp'
  exact sm_vals hst
theorem ne_sameI {n : Int} {A B : Prop} (h : B) : if (!decide (V.int n = V.int n)) = true then A else B := by
  rw [decide_eq_true rfl]; exact h
section
variable {P : Program} {w : World} {K : PySem.W.Frag} {mg : Str → Option Value} {base : Heap}
theorem ok_lpart {f : Addr} {fd : FuncData} (F : Fun K "_law_part" "_law_part" sLawPart f fd) (T : Nms mg) : FnOk P w K mg base CX0 1 f fd ["step"] spPart := by
  refine fnOk_1 F scLawPart (by decide +kernel) (by decide) (fun vs H Q E h => ?_) (fun cdv A outer s H vs Q E hr h => ?_)
  · obtain ⟨p, st, rfl, _⟩ := h
    rfl
  · obtain ⟨p, st, rfl, hst, hok, q⟩ := h
    have nd := scLawPart.nd
    refine ⟨_, pssn_one (psn_ret (pen_m1 PySem.F.slot_str_join PySem.F.type_str_join mt_join (pen pe_str)
      (pen_lc (own := [("entry", 1)]) (g := gName 1) (tt := tYes) rfl nd (pi_tup (pv 0)) (blkOk_by (N := ["step", "entry"]) (sc := defScope sLawPart) (by decide +kernel)) (fun _ _ _ _ _ => pg_name (i := 1) nd rfl (Or.inl rfl)) (fun _ _ _ _ _ => pts_nil)
        (fun _ _ _ _ _ => pen_replC (Nat.le_refl 1) (pe_callTy (callR_or call_str_int SkE.call_str_str) (by rfl) T.str (by decide +kernel) (pa_cons (pv 1) pa_nil)))))), ?_⟩
    refine ⟨⟨_, rfl⟩, _, rfl, p, rfl, ⟨_, hst.seq⟩, fun D hD => ?_⟩
    refine lc_it (walk_tup (xs := stpVals st)) (fun i H' => H' D = some (.lst ((((wordL st :: argL st).take i).map S).map V.str)) ∧ Ext H H') ⟨upd_same, Ext.refl.new hD⟩ (fun i H' _ z => (hst.ext z.2).seq) ?_ ?_
    · rintro i x H2 H3 hi ⟨h2, k2⟩ ⟨rfl, hx⟩
      obtain ⟨y, hy, hw⟩ := word_get hok hx
      have fin : ∃ acc, H3 D = some (.lst acc) ∧ acc.length < sizeLine ∧ (L2.upd H3 D (.lst (acc ++ [V.str (S y)]))) D = some (.lst ((((wordL st :: argL st).take (i + 1)).map S).map V.str)) ∧ Ext H (L2.upd H3 D (.lst (acc ++ [V.str (S y)]))) := by
        refine ⟨_, h2, ?_, ?_, k2.new hD⟩
        · rw [List.length_map, List.length_map, sizeLine_eq]
          have h1 := List.length_take_le' i (wordL st :: argL st)
          have h3 := arg_few st
          rw [List.length_cons] at h1
          omega
        · rw [upd_same, List.take_succ, hy, List.map_append, List.map_append]
          rfl
      have e1 : ("~" : Str).length = 1 := by decide +kernel
      rcases hw with ⟨l, rfl, hl, rfl⟩ | ⟨n, h1, h9, rfl, rfl⟩
      · refine ⟨rfl, _, rfl, .inr ⟨_, rfl, S l, rfl, ?_, ?_⟩⟩
        · rw [S_len, e1]; omega
        · rw [tild_S]; exact fin
      · refine ⟨rfl, _, rfl, .inl ⟨_, rfl, ?_, S [48 + n], ?_, ?_, ?_⟩⟩
        · have : ((n : Nat) : Int).natAbs = n := by omega
          rw [this]
          exact Nat.lt_of_le_of_lt (Nat.log2_le_self n) (by omega)
        · rw [digit_S n h1 h9]
        · rw [S_len, e1]; simp
        · rw [tild_S]
          have e2 : ([48 + n] : List Nat).map tild = [48 + n] := by
            show [swapC 32 126 (48 + n)] = _
            unfold swapC
            rw [if_neg (by omega)]
          rw [e2]
          exact fin
    · rintro H2 ⟨h2, k2⟩
      have e2 : (stpVals st).length = (wordL st :: argL st).length := by
        rw [List.length_cons, arg_len]
        cases st <;> rfl
      rw [e2, List.take_length] at h2
      refine ⟨_, D, (wordL st :: argL st).map S, rfl, rfl, .inl (SqL.of h2), ?_, ?_⟩
      · rw [sum_S, List.length_map, List.map_cons, List.sum_cons, List.length_cons]
        have h1 := sum_le (m := 10) (arg_lens hok)
        have h3 := word_len st
        have h4 := arg_few st
        have e : (" " : Str).length = 1 := by decide +kernel
        rw [e]
        omega
      · rw [space_S, join_S]
        exact q _ k2
theorem ok_lftext {f : Addr} {fd : FuncData} (F : Fun K "_law_folding_text" "_law_folding_text" sLawFoldingText f fd) (W : Cl P w K mg base 1 "_law_part" spPart) : FnOk P w K mg base CX0 2 f fd ["steps"] (spLText K) := by
  refine F.ok scLawFoldingText (fun vs H Q E h => ?_) (fun cdv A outer s H vs Q E hr h => ?_)
  · obtain ⟨r, sts, rfl, _⟩ := h
    rfl
  · obtain ⟨r, sts, rfl, hR, h6, q⟩ := h
    have nd := scLawFoldingText.nd
    refine ⟨_, pss_one (ps_ret (pe_ifExp (pt_cmpR (op_neDK (K := K) rfl hr.units) (pv 0) (pe_tup pa_nil) (nomark _))
      (pe_join pe_str (pe_lc (own := [("step", 1)]) (g := gName 1) (tt := tYes) rfl nd (pi_tup (pv 0)) (blkOk_by (N := ["steps", "step"]) (sc := defScope sLawFoldingText) (by decide +kernel)) (fun _ _ _ _ _ => pg_name (i := 1) nd rfl (Or.inl rfl)) (fun _ _ _ _ _ => pts_nil)
        (fun _ _ _ _ _ => pe_cl W hr (by decide) rfl (pa_cons (pv 1) pa_nil)))) pe_str)), ?_⟩
    refine ⟨_, rfl, by show 0 ≤ sizeLine; decide, fun t ht => ?_⟩
    have kt : Ext H (L2.upd H t (.tup [])) := Ext.refl.new ht
    obtain ⟨ps, hps, al⟩ := hR.ext kt
    refine ⟨_, _, .tup hps (al_dp al), .tup (SqT.of upd_same) .nil, row_shape al.ok, by decide +kernel, _, rfl, ?_⟩
    by_cases hs : sts = []
    · subst hs
      have e : (!PyData.eqv (.tuple (([] : List Stp).map stpData)) (.tuple [])) = false := by decide +kernel
      rw [e]
      refine iteF ?_
      have z := q _ kt
      rw [show ftext [] = plainL from rfl, ← plain_S] at z
      exact z
    · have e : (!PyData.eqv (.tuple (sts.map stpData)) (.tuple [])) = true := by
        cases sts with
        | nil => exact absurd rfl hs
        | cons st sts => rfl
      rw [e]
      refine iteT ⟨⟨_, rfl⟩, _, rfl, r, rfl, ⟨_, hps⟩, fun D hD => ?_⟩
      refine lc_it (walk_tup (xs := ps.map V.ref)) (fun i H' => H' D = some (.lst ((((sts.take i).map partL).map S).map V.str)) ∧ Ext (L2.upd H t (.tup [])) H') ⟨upd_same, Ext.refl.new hD⟩ (fun i H' _ z => sqT_keep hps fun o e => z.2 r o e) ?_ ?_
      · rintro i x H2 H3 hi ⟨h2, k2⟩ ⟨rfl, hx⟩
        rw [List.getElem?_map] at hx
        obtain ⟨p, hp, rfl⟩ := Option.map_eq_some_iff.mp hx
        obtain ⟨st, es, hst, ok⟩ := al.get hp
        refine ⟨rfl, _, rfl, p, st, rfl, hst.ext k2, ok, fun H4 k4 => ⟨_, k4 D _ h2, ?_, ?_, (k2.trans k4).new hD⟩⟩
        · rw [List.length_map, List.length_map, List.length_map, sizeLine_eq]
          have := List.length_take_le' i sts
          omega
        · rw [upd_same, List.take_succ, es, List.map_append, List.map_append, List.map_append]
          rfl
      · rintro H2 ⟨h2, k2⟩
        rw [List.length_map, al.len, List.take_length] at h2
        refine ⟨_, D, (sts.map partL).map S, rfl, rfl, .inl (SqL.of h2), ?_, ?_⟩
        · rw [sum_S, List.length_map, List.length_map]
          have h1 := sum_le (parts_len al.ok)
          rw [List.length_map] at h1
          have e : ("; " : Str).length = 2 := by decide +kernel
          rw [e]
          omega
        · rw [semi_S, join_S]
          have z := q H2 (kt.trans k2)
          unfold ftext at z
          rw [if_neg hs] at z
          exact z
theorem ok_same {f : Addr} {fd : FuncData} (F : Fun K "_law_same" "_law_same" sLawSame f fd) (T : Nms mg) (m : mg "_law_same" = some (.ref f)) (kp : PySem.W.keepIn K (.ref f) = true) (b : Binds K fd ["actual", "expected"] []) : ∀ n : Nat, FnOk P w K mg base CX0 (n + 1) f fd ["actual", "expected"] (spSame K n) := by
  have body : ∀ n : Nat, (∀ m', n = m' + 1 → FnOk P w K mg base CX0 n f fd ["actual", "expected"] (spSame K m')) → FnOk P w K mg base CX0 (n + 1) f fd ["actual", "expected"] (spSame K n) := by
    intro n ih
    refine F.ok scLawSame (fun vs H Q E h => ?_) (fun cdv A outer s H vs Q E hr h => ?_)
    · obtain ⟨x, y, rfl, _⟩ := h
      rfl
    · obtain ⟨x, y, rfl, sm, q⟩ := h
      have nd := scLawSame.nd

      cases sm with
      | str z =>
        refine ⟨_, pss_cons (ps_if (pt_val (pe_callB call_isi (by rfl) T.isi (by decide +kernel) (pa_cons (pv 1) (pa_cons (pe_bltn (v := .ty "tuple") (by rfl) T.tuple (by decide +kernel) rfl) pa_nil)))) pss_never pss_nil)
          (pss_cons (ps_if (pt_val (pe_callB call_isi (by rfl) T.isi (by decide +kernel) (pa_cons (pv 1) (pa_cons (pe_bltn (v := .ty "str") (by rfl) T.str (by decide +kernel) rfl) pa_nil))))
            (pss_one (ps_ret (pe_and (pe_callB call_isi (by rfl) T.isi (by decide +kernel) (pa_cons (pv 0) (pa_cons (pe_bltn (v := .ty "str") (by rfl) T.str (by decide +kernel) rfl) pa_nil))) (pe_one (pe_cmpR op_eq (pv 0) (pv 1) (nomark _)))))) pss_nil)
          pss_never), ?_⟩
        refine ⟨_, rfl, _, _, _, _, false, rfl, .ty "tuple", .base (.str _), kit_ty (by decide +kernel), false, rfl, iteF ?_⟩
        refine ⟨_, rfl, _, _, _, _, true, rfl, .ty "str", .base (.str _), kit_ty (by decide +kernel), true, rfl, iteT ?_⟩
        refine ⟨_, rfl, _, _, _, _, true, rfl, .ty "str", .base (.str _), kit_ty (by decide +kernel), true, rfl, iteT ⟨_, rfl, _, rfl, rfl, ?_⟩⟩
        rw [decide_eq_true rfl]
        exact q H .refl
      | int i =>
        refine ⟨_, pss_cons (ps_if (pt_val (pe_callB call_isi (by rfl) T.isi (by decide +kernel) (pa_cons (pv 1) (pa_cons (pe_bltn (v := .ty "tuple") (by rfl) T.tuple (by decide +kernel) rfl) pa_nil)))) pss_never pss_nil)
          (pss_cons (ps_if (pt_val (pe_callB call_isi (by rfl) T.isi (by decide +kernel) (pa_cons (pv 1) (pa_cons (pe_bltn (v := .ty "str") (by rfl) T.str (by decide +kernel) rfl) pa_nil)))) pss_never pss_nil)
          (pss_one (ps_ret (pe_and (pe_callB call_isi (by rfl) T.isi (by decide +kernel) (pa_cons (pv 0) (pa_cons (pe_bltn (v := .ty "int") (by rfl) T.int (by decide +kernel) rfl) pa_nil)))
            (pe_and (pe_not (pe_callB call_isi (by rfl) T.isi (by decide +kernel) (pa_cons (pv 0) (pa_cons (pe_bltn (v := .ty "bool") (by rfl) T.bool (by decide +kernel) rfl) pa_nil)))) (pe_one (pe_cmpR op_eq (pv 0) (pv 1) (nomark _)))))))), ?_⟩
        refine ⟨_, rfl, _, _, _, _, false, rfl, .ty "tuple", .base (.int _), kit_ty (by decide +kernel), false, rfl, iteF ?_⟩
        refine ⟨_, rfl, _, _, _, _, false, rfl, .ty "str", .base (.int _), kit_ty (by decide +kernel), false, rfl, iteF ?_⟩
        refine ⟨_, rfl, _, _, _, _, true, rfl, .ty "int", .base (.int _), kit_ty (by decide +kernel), true, rfl, iteT ?_⟩
        refine ⟨_, rfl, _, _, _, _, false, rfl, .ty "bool", .base (.int _), kit_ty (by decide +kernel), false, rfl, true, rfl, iteT ⟨_, rfl, _, rfl, rfl, ?_⟩⟩
        rw [decide_eq_true rfl]
        exact q H .refl
      | @tup m' a c xs ys h1 h2 hl hb hs =>
        refine ⟨_, pss_cons (ps_if (pt_val (pe_callB call_isi (by rfl) T.isi (by decide +kernel) (pa_cons (pv 1) (pa_cons (pe_bltn (v := .ty "tuple") (by rfl) T.tuple (by decide +kernel) rfl) pa_nil))))
          (pss_cons (ps_if (PW.pt (pw_or (pt_not (pt_val (pe_callB call_isi (by rfl) T.isi (by decide +kernel) (pa_cons (pv 0) (pa_cons (pe_bltn (v := .ty "tuple") (by rfl) T.tuple (by decide +kernel) rfl) pa_nil)))))
              (pw_or1 (pt_cmpR op_ne (pe_callB call_len_seq (by rfl) T.len PySem.boot_len (pa_cons (pv 0) pa_nil)) (pe_callB call_len_seq (by rfl) T.len PySem.boot_len (pa_cons (pv 1) pa_nil)) (nomark _))))) pss_never pss_nil)
          (pss_cons (ps_for PassesOwn.never rfl (pi_range1 rfl T.range (pa_cons (pe_callB call_len_seq (by rfl) T.len PySem.boot_len (pa_cons (pv 1) pa_nil)) pa_nil)) (pg_name (i := 2) nd rfl (Or.inl rfl))
            (pss_one (ps_if (pt_not (pt_val (pe_call (ih m' rfl) (hr.mono (Nat.le_refl _)) rfl m kp b .nil pass0 (pa_cons (pe_ix ix_tup (pv 0) (pv 2) (fun _ _ => rfl)) (pa_cons (pe_ix ix_tup (pv 1) (pv 2) (fun _ _ => rfl)) pa_nil))))) pss_never pss_nil)))
          (pss_one (ps_ret pe_bl)))) pss_nil) pss_never, ?_⟩
        refine ⟨_, rfl, _, _, _, _, true, rfl, .ty "tuple", sqT_ty h2, kit_ty (by decide +kernel), true, rfl, iteT ?_⟩
        refine ⟨_, rfl, _, _, _, _, true, rfl, .ty "tuple", sqT_ty h1, kit_ty (by decide +kernel), true, rfl, iteF ?_⟩
        refine ⟨_, rfl, a, xs, rfl, .inr h1, _, rfl, c, ys, rfl, .inr h2, rfl, _, rfl, ?_⟩
        rw [hl]
        refine ne_sameI ?_
        refine ⟨_, rfl, c, ys, rfl, .inr h2, _, rfl, by omega, by omega, ?_⟩
        refine for_range (lo := 0) (n := ((ys.length : Nat) : Int).toNat) (fun i σ H' => ∃ u, σ = [some (.ref a), some (.ref c), u] ∧ Ext H H') ⟨none, rfl, .refl⟩ ?_ ?_
        · rintro i σ H2 hi ⟨u, rfl, k2⟩
          have hi' : i < ys.length := by omega
          have ei : (0 : Int) + (i : Nat) = ((i : Nat) : Int) := by omega
          have hx : xs[i]? = some xs[i] := List.getElem?_eq_getElem (by omega)
          have hy : ys[i]? = some ys[i] := List.getElem?_eq_getElem hi'
          refine ⟨_, rfl, _, rfl, a, xs, i, xs[i], rfl, by rw [ei], sqT_keep h1 (fun o e => k2 _ o e), atI_nat hx, ?_⟩
          refine ⟨_, rfl, _, rfl, c, ys, i, ys[i], rfl, by rw [ei], sqT_keep h2 (fun o e => k2 _ o e), atI_nat hy, ?_⟩
          exact ⟨_, _, rfl, (hs i _ _ hx hy).ext k2, fun H3 k3 => ⟨true, rfl, iteF ⟨_, rfl, k2.trans k3⟩⟩⟩
        · rintro σ H2 ⟨u, rfl, k2⟩
          exact q H2 k2
  intro n
  induction n with
  | zero => exact body 0 fun m' e => by omega
  | succ n ih => exact body (n + 1) fun m' e => by cases e; exact ih
end
end Pd

set_option maxHeartbeats 4000000
namespace Pd
open PySem PySem.Spec PyProof.Rows L2 SX
/-! ### rows cut and put together -/
theorem Al.take {H : Hp} : ∀ {ps : List Addr} {sts : List Stp} (k : Nat), Al H ps sts → Al H (ps.take k) (sts.take k)
  | _, _, 0, _ => by rw [List.take_zero, List.take_zero]; exact .nil
  | _, _, k + 1, .nil => .nil
  | _, _, k + 1, .cons h ok r => .cons h ok (r.take k)
theorem Al.drop {H : Hp} : ∀ {ps : List Addr} {sts : List Stp} (k : Nat), Al H ps sts → Al H (ps.drop k) (sts.drop k)
  | _, _, 0, h => h
  | _, _, k + 1, .nil => .nil
  | _, _, k + 1, .cons h ok r => r.drop k
theorem Al.append {H : Hp} : ∀ {ps qs : List Addr} {sts tts : List Stp}, Al H ps sts → Al H qs tts → Al H (ps ++ qs) (sts ++ tts)
  | _, _, _, _, .nil, h => h
  | _, _, _, _, .cons h ok r, q => .cons h ok (r.append q)
theorem row_take {K : PySem.W.Frag} {H : Hp} {r : Addr} {sts : List Stp} {k : Int} {Q : VK} (hR : RowAt K H r sts) (h0 : 0 ≤ k) (q : ∀ r' H', Ext H H' → RowAt K H' r' (sts.take k.toNat) → Q (.ref r') H') : rSlA K (.ref r) none (some k) H Q := by
  obtain ⟨ps, hp, al⟩ := hR
  have ek : k = ((k.toNat : Nat) : Int) := by omega
  have hl : (ps.map V.ref).length = ps.length := List.length_map _
  refine ⟨r, _, rfl, hp, fun hw => ?_, fun hw p np => ?_⟩
  · have e := hw.2
    rw [ek, HT.sIx_nat, hl] at e
    refine q r H .refl ⟨ps, hp, ?_⟩
    have := al.len
    rw [List.take_of_length_le (by omega)]
    exact al
  · refine q p _ (Ext.refl.new np) ⟨ps.take k.toNat, SqT.of ?_, (al.take _).ext (Ext.refl.new np)⟩
    rw [upd_same]
    unfold cutV
    rw [ek, HT.sIx_nat, HT.sIx_none, List.drop_zero, Nat.sub_zero, List.map_take, hl]
    congr 2
    by_cases h : k.toNat ≤ ps.length
    · rw [Nat.min_eq_left (by omega)]; rw [Int.toNat_natCast]
    · rw [Nat.min_eq_right (by omega), List.take_of_length_le (by rw [hl]; omega), List.take_of_length_le (by rw [hl]; omega)]
theorem row_drop {K : PySem.W.Frag} {H : Hp} {r : Addr} {sts : List Stp} {k : Int} {Q : VK} (hR : RowAt K H r sts) (h0 : 0 ≤ k) (q : ∀ r' H', Ext H H' → RowAt K H' r' (sts.drop k.toNat) → Q (.ref r') H') : rSlA K (.ref r) (some k) none H Q := by
  obtain ⟨ps, hp, al⟩ := hR
  have ek : k = ((k.toNat : Nat) : Int) := by omega
  have hl : (ps.map V.ref).length = ps.length := List.length_map _
  refine ⟨r, _, rfl, hp, fun hw => ?_, fun hw p np => ?_⟩
  · have e := hw.1
    rw [ek, HT.sIx_nat, hl] at e
    have hlen := al.len
    by_cases hk : k.toNat = 0
    · refine q r H .refl ⟨ps, hp, ?_⟩
      rw [hk]
      exact al
    · have e2 : ps.length = 0 := by omega
      have e3 : ps = [] := List.eq_nil_of_length_eq_zero e2
      subst e3
      have e4 : sts = [] := List.eq_nil_of_length_eq_zero (by rw [← hlen]; rfl)
      subst e4
      refine q r H .refl ⟨[], hp, ?_⟩
      rw [List.drop_nil]
      exact .nil
  · refine q p _ (Ext.refl.new np) ⟨ps.drop k.toNat, SqT.of ?_, (al.drop _).ext (Ext.refl.new np)⟩
    rw [upd_same]
    unfold cutV
    rw [ek, HT.sIx_nat, HT.sIx_none, List.map_drop, hl, Int.toNat_natCast]
    congr 2
    by_cases h : k.toNat ≤ ps.length
    · rw [Nat.min_eq_left (by omega), List.take_of_length_le (by rw [List.length_drop, hl]; omega)]
    · rw [Nat.min_eq_right (by omega), Nat.sub_self, List.take_zero, List.drop_eq_nil_of_le (by rw [hl]; omega)]
theorem row_cat {K : PySem.W.Frag} {H : Hp} {r t : Addr} {s1 s2 : List Stp} {Q : VK} (h1 : RowAt K H r s1) (h2 : RowAt K H t s2) (hl : s1.length + s2.length ≤ 1000) (q : ∀ r' H', Ext H H' → RowAt K H' r' (s1 ++ s2) → Q (.ref r') H') : rCatA K (.ref r) (.ref t) H Q := by
  obtain ⟨ps, hp, al⟩ := h1
  obtain ⟨qs, hq, bl⟩ := h2
  have n1 : ps.map V.ref = [] → s1 = [] := fun e => by
    have := al.len
    rw [List.map_eq_nil_iff.mp e] at this
    exact List.eq_nil_of_length_eq_zero this.symm
  have n2 : qs.map V.ref = [] → s2 = [] := fun e => by
    have := bl.len
    rw [List.map_eq_nil_iff.mp e] at this
    exact List.eq_nil_of_length_eq_zero this.symm
  refine ⟨r, t, _, _, rfl, rfl, hp, hq, ?_, fun e => ?_, fun _ e => ?_, fun _ _ p np => ?_⟩
  · rw [List.length_map, List.length_map, al.len, bl.len, sizeLine_eq]; omega
  · rw [n1 e, List.nil_append] at q
    exact q t H .refl ⟨qs, hq, bl⟩
  · rw [n2 e, List.append_nil] at q
    exact q r H .refl ⟨ps, hp, al⟩
  · refine q p _ (Ext.refl.new np) ⟨ps ++ qs, SqT.of ?_, (al.append bl).ext (Ext.refl.new np)⟩
    rw [upd_same, List.map_append]
theorem mks_append (a b : List Stp) (l : List Nat) : mks (a ++ b) l = mks b (mks a l) := List.foldl_append ..
def spAdd (K : PySem.W.Frag) (C : Addr) : Sp := fun vs H Q _ => ∃ (o1 r1 o2 r2 : Addr) (s1 s2 : List Stp), vs = [.ref o1, .ref o2] ∧ FoldAt K C H o1 r1 s1 ∧ FoldAt K C H o2 r2 s2 ∧ s1.length + s2.length ≤ 6 ∧
  ∀ o r H', Ext H H' → FoldAt K C H' o r (s1 ++ s2) → Q (.ref o) H'
section
variable {P : Program} {w : World} {K : PySem.W.Frag} {mg : Str → Option Value} {base : Heap}
theorem ok_fadd {f Cf : Addr} {fd : FuncData} (F : Fun K "__add__" "Folding.__add__" sFoldingAdd f fd) (T : Nms mg) (Z : Fcl K mg Cf) (IC : C8.InsC K Cf) (Y : Fol P w K mg base Cf) : FnOk P w K mg base CX0 6 f fd ["self", "other"] (spAdd K Cf) := by
  refine F.ok scFoldingAdd (fun vs H Q E h => ?_) (fun cdv A outer s H vs Q E hr h => ?_)
  · obtain ⟨o1, r1, o2, r2, s1, s2, rfl, _⟩ := h
    rfl
  · obtain ⟨o1, r1, o2, r2, s1, s2, rfl, F1, F2, h6, q⟩ := h
    obtain ⟨fi, fdi, M, FI, bI⟩ := Y.made
    refine ⟨_, pss_cons (ps_if (pt_not (pt_val (pe_callB call_isi (by rfl) T.isi (by decide +kernel) (pa_cons (pv 1) (pa_cons (pe_glob (v := .ref Cf) rfl Z.mgC rfl) pa_nil))))) pss_never pss_nil)
      (pss_one (ps_ret (pe_make M FI hr rfl Z.mgC bI .nil pass0 (pa_cons (pe_op op_catA (pe_fld (pv 0) rfl) (pe_fld (pv 1) rfl)) pa_nil)))), ?_⟩
    obtain ⟨⟨d1, e1⟩, R1, l1⟩ := id F1
    obtain ⟨⟨d2, e2⟩, R2, l2⟩ := id F2
    refine ⟨_, rfl, _, _, .ref Cf, .ref Cf, true, rfl, .own Cf, .base (.ins e2 IC.cl IC.ha IC.hn IC.htk IC.hm), IC.me, true, rfl, iteF ?_⟩
    refine ⟨_, rfl, o1, Cf, d1, _, _, rfl, e1, Z.cl, Z.nS, rfl, _, rfl, o2, Cf, d2, _, _, rfl, e2, Z.cl, Z.nS, rfl, ?_⟩
    refine row_cat R1 R2 (by omega) fun r' H1 k1 R' x dx hx hdx ne => ?_
    refine made_ask R' (by rw [List.length_append]; omega) hx hdx ne fun H2 F2' k2 => ⟨rfl, q x r' H2 (k1.trans k2) F2'⟩
end
end Pd

namespace Pd
open PySem PySem.Spec PyProof.Rows L2 PySem.OEX
/-! ### D.__init__(self, ..) in an own error's __init__, D an own error without one -/
section
variable {X : Cx} {e : Expr} {es : List Expr} {ta : TA} {p1 p2 pos : Pos} {D : Addr} {x : Str}
theorem pe_oeinit {pl : Sem Bool} (hg : Gl X x) (hm : X.mg x = some (.ref D)) (rg : PySem.W.specialIn X.K (.ref D) "__getattribute__" = some (some (.builtin "type.__getattribute__"))) (rd : PySem.W.readsIn X.K D (.type "type") = true)
    (vV : PySem.W.findCls X.K (.ref D) (.type "type") "__init__" = some (.val (.builtin "ValueError.__init__"))) (ha : PA X (e :: es) ta)
    (hc : eval (.Call (.Attribute (.Name x p1) "__init__" p2) (e :: es) [] pos) X.env = (do
      let ov ← eval (.Name x p1) X.env
      standAt p2.atName
      let (f, first) ← holding [ov] (getMethod ov "__init__" pl)
      callWith pos f first (backTo pos (starEach (e :: es) X.env)) (backToKw pos (keywordEach [] X.env))) := by rfl)
    (hd : (x == ("__debug__" : Str)) = false := by decide)
    (he : starEach (e :: es) X.env = (false, eval e X.env) :: starEach es X.env := by rfl) (hpl : (backTo pos (starEach es X.env)).any (·.1) = false := by rfl) :
    PE X (.Call (.Attribute (.Name x p1) "__init__" p2) (e :: es) [] pos) (tVeI X.K ta) := by
  refine ⟨fun pins s σ H Q I h => ?_⟩
  refine PySem.W.methodCall_KW (ld_glob I hg hm ?_ hd) hc
  refine PySem.W.method_cls I.kIn rg (PySem.W.cls_value I.kIn rd vV (by decide +kernel) ?_)
  have I := I.tok (s.toks + 1)
  show wpAny _ _ (callWith pos (Value.builtin "ValueError.__init__") [] (backTo pos (starEach (e :: es) X.env)) []) _ _ _
  refine PyProof.Rows.callWith_method1 (thn (ha.run pos pins _ σ H _ I h) fun us s1 ⟨vs, H1, I1, r1, a, C, ws, ev, hl, T, ea, q⟩ => ?_) he hpl
  subst ev
  cases r1 with
  | @cons _ u0 _ ur ra rw' =>
    obtain rfl : u0 = Value.ref a := ra
    have hlen : ur.length ≤ sizeLine := by
      rw [← Paired.length rw', sizeLine_eq]
      omega
    exact oinit_ok T I1 ea hlen fun s' J => ⟨.non, H1, J, rfl, q⟩
end
end Pd

set_option maxHeartbeats 4000000
namespace Pd
open PySem PySem.Spec PyProof.Rows L2 PySem.OEX
/-- NoStep.__init__: the new error has the field index -/
def spNsInit (K : PySem.W.Frag) (C : Addr) : Sp := fun vs H Q _ => ∃ (a : Addr) (y : V), vs = [.ref a, y] ∧ H a = some (exo a C none) ∧
  ∀ d, H d = none → d ≠ a → Q .non (upd (upd H d (exd d [("index", y)])) a (exo a C (some d)))
/-- what the class NoStep and its base say -/
structure NsC (K : PySem.W.Frag) (mg : Str → Option Value) (C D : Addr) : Prop where
  o : OexC K C
  no : PySem.W.findIn K (.ref C) "index" = some none
  g : mg "PlainError" = some (.ref D)
  rg : PySem.W.specialIn K (.ref D) "__getattribute__" = some (some (.builtin "type.__getattribute__"))
  rd : PySem.W.readsIn K D (.type "type") = true
  vV : PySem.W.findCls K (.ref D) (.type "type") "__init__" = some (.val (.builtin "ValueError.__init__"))
section
variable {P : Program} {w : World} {K : PySem.W.Frag} {mg : Str → Option Value} {base : Heap}
theorem ok_nsInit {f C D : Addr} {fd : FuncData} (F : Fun K "__init__" "NoStep.__init__" sNostepInit f fd) (Z : NsC K mg C D) : FnOk P w K mg base CX0 1 f fd ["self", "index"] (spNsInit K C) := by
  refine F.ok scNostepInit (fun vs H Q E h => ?_) (fun cdv A outer s H vs Q E hr h => ?_)
  · obtain ⟨a, y, rfl, _⟩ := h
    rfl
  · obtain ⟨a, y, rfl, e, q⟩ := h
    refine ⟨_, pss_cons (ps_expr (pe_oeinit (x := "PlainError") rfl Z.g Z.rg Z.rd Z.vV (pa_cons (pv 0) (pa_cons pe_str pa_nil))))
      (pss_one (ps_ost (pv 0) (pv 1))), ?_⟩
    refine ⟨_, rfl, a, C, _, rfl, by show 1 ≤ 1000; decide, Z.o, e, ?_⟩
    exact ⟨_, rfl, _, rfl, a, C, rfl, Z.o, Z.no, .inl ⟨e, fun dx hd n => q dx hd n⟩⟩
end
end Pd

set_option maxHeartbeats 4000000
namespace Pd
open PySem PySem.Spec PyProof.Rows L2
/-! ### len(set(xs)), xs a tuple of texts -/
def metS (xs : List Str) : Nat → List Str
  | 0 => []
  | i + 1 => if (metS xs i).any (· == xs.getD i Str.empty) then metS xs i else metS xs i ++ [xs.getD i Str.empty]
theorem metS_len (xs : List Str) : ∀ i, (metS xs i).length ≤ i
  | 0 => Nat.le_refl _
  | i + 1 => by
    have := metS_len xs i
    show (if _ then _ else _ : List Str).length ≤ _
    split
    · omega
    · rw [List.length_append]; show _ + 1 ≤ _; omega
theorem metS_any (xs : List Str) (i : Nat) (k : Str) : (metS xs (i + 1)).any (· == k) = ((metS xs i).any (· == k) || decide (k = xs.getD i Str.empty)) := by
  show (if _ then _ else _ : List Str).any _ = _
  generalize xs.getD i Str.empty = v
  split
  next h =>
    by_cases e : k = v
    · subst e; rw [h]; simp
    · simp [e]
  next h =>
    rw [List.any_append]
    by_cases e : k = v
    · subst e; simp
    · have z : (v == k) = false := beq_eq_false_iff_ne.mpr fun q => e q.symm
      simp [z, e]
theorem metS_step (xs : List Str) (i : Nat) : (metS xs (i + 1)).length = if (metS xs i).any (· == xs.getD i Str.empty) then (metS xs i).length else (metS xs i).length + 1 := by
  show (if _ then _ else _ : List Str).length = _
  split
  · rfl
  · rw [List.length_append]; rfl
theorem metS_mem (xs : List Str) (k : Str) : ∀ i, i ≤ xs.length → ((metS xs i).any (· == k) = true ↔ k ∈ xs.take i)
  | 0, _ => by simp [metS]
  | i + 1, h => by
    have hi : i < xs.length := h
    rw [metS_any, Bool.or_eq_true, metS_mem xs k i (Nat.le_of_lt hi), decide_eq_true_iff, List.take_add_one, List.getElem?_eq_getElem hi, List.mem_append]
    have e : xs.getD i Str.empty = xs[i] := by rw [List.getD_eq_getElem?_getD, List.getElem?_eq_getElem hi]; rfl
    rw [e]; simp
/-- as many are met as there are just where none stands twice -/
theorem metS_full (xs : List Str) : ∀ i, i ≤ xs.length → ((metS xs i).length = i ↔ (xs.take i).Nodup)
  | 0, _ => by simp [metS]
  | i + 1, h => by
    have hi : i < xs.length := h
    have e : xs.getD i Str.empty = xs[i] := by rw [List.getD_eq_getElem?_getD, List.getElem?_eq_getElem hi]; rfl
    have ih := metS_full xs i (Nat.le_of_lt hi)
    have l := metS_len xs i
    rw [metS_step, List.take_add_one, List.getElem?_eq_getElem hi, Option.toList_some, List.nodup_append]
    have m := metS_mem xs xs[i] i (Nat.le_of_lt hi)
    rw [e]
    by_cases z : (metS xs i).any (· == xs[i]) = true
    · rw [if_pos z]
      refine ⟨fun q => by omega, fun q => ?_⟩
      exact absurd rfl (q.2.2 _ (m.mp z) _ (List.mem_singleton_self _))
    · rw [if_neg z]
      refine ⟨fun q => ⟨ih.mp (by omega), by simp, fun a ha b hb => ?_⟩, fun q => by have := ih.mpr q.1; omega⟩
      rw [List.mem_singleton.mp hb]
      rintro rfl
      exact z (m.mpr ha)
section
variable {prog : Program} {w : World} {A : Around} {R : Result → Shared → Prop} {I : Addr} {fp wr : List Addr} {G : Array GenState → Array GenState → Prop} {n : Nat} {P : Nat → Value → Prop} {St : Nat → Shared → Prop}
theorem loop_strs (W : WalksS prog w A.in1 I fp wr G n P St) (S : Addr) (hSf : S ∉ fp) (xs : List Str) (hn1 : n ≤ 1000) (hval : ∀ i v, P i v → ∃ t, v = .str (xs.getD i Str.empty) t) :
    ∀ (k i : Nat) (s : Shared), n - i = k → i ≤ n → St i s → s.heap.SetOf (PySem.strKind prog w) S (fun k' => (metS xs i).any (· == k')) (metS xs i).length →
      (∀ s', Moved (S :: wr) G s s' → s'.heap.SetOf (PySem.strKind prog w) S (fun k' => (metS xs n).any (· == k')) (metS xs n).length → R (.ok (.ret .none)) s') →
      codeAny (model prog w) A (.builtin "set.update.loop" ⟨[.ref S, .ref I], []⟩) R s := by
  have nw : S ∉ wr := fun z => hSf (W.sub _ z)
  have up : ∀ b ∈ wr, b ∈ S :: wr := fun b z => List.mem_cons_of_mem _ z
  have stay : ∀ {s s' : Shared} {X : Str → Bool} {m : Nat}, Moved wr G s s' → s.heap.SetOf (PySem.strKind prog w) S X m → s'.heap.SetOf (PySem.strKind prog w) S X m := by
    rintro s s' X m hm ⟨o, es, ep, t, ho, more⟩
    exact ⟨o, es, ep, t, hm.heap S _ nw ho, more⟩
  intro k
  induction k with
  | zero =>
    intro i s ek hi st hs hR
    obtain rfl : i = n := by omega
    refine codeAny_builtin PyProof.Rows.F.entry_set_update_loop ?_
    rw [Around.under_plainId PyProof.Rows.F.plain_set_update_loop _]
    show wpAny _ A.in1 (pyNext (.ref I) >>= _) _ _ s
    exact wpAny_bind (W.done s _ _ st fun s' hm => show wpAny _ A.in1 (ret Value.none) _ _ s' from wpAny_pure (hR s' (hm.mono up) (stay hm hs)))
  | succ k ih =>
    intro i s ek hi st hs hR
    have lt : i < n := by omega
    refine codeAny_builtin PyProof.Rows.F.entry_set_update_loop ?_
    rw [Around.under_plainId PyProof.Rows.F.plain_set_update_loop _]
    show wpAny _ A.in1 (pyNext (.ref I) >>= _) _ _ s
    refine wpAny_bind (W.item i s _ _ lt st fun v s' hP st' hm => ?_)
    obtain ⟨t, rfl⟩ := hval i v hP
    show wpAny _ A.in1 (holding [Value.str (xs.getD i Str.empty) t] (setAdd S (.str (xs.getD i Str.empty) t)) >>= _) _ _ s'
    refine wpAny_bind (wpAny_holding ?_)
    unfold setAdd
    have ll := metS_len xs i
    have hs' : s'.heap.SetOf (PySem.strKind prog w) S (fun k' => (metS xs i).any (· == k')) (metS xs i).length := stay hm hs
    refine wpAny_holding (wpAny_bind ((PySem.strKind prog w).pyHash (k := xs.getD i Str.empty) (strKind_is _ _ _ _) ?_))
    refine wpAny_setAddHashed_of (knd := PySem.strKind prog w) (s := { s' with toks := s'.toks + 1 }) (strKind_is _ _ _ _) rfl hs' (by unfold scanBound; omega) fun h' hb h2 => ?_
    have here : h'.SetOf (PySem.strKind prog w) S (fun k' => (metS xs (i + 1)).any (· == k')) (metS xs (i + 1)).length :=
      SetOf_congr h2 (fun k' => by rw [metS_any]) (by rw [metS_step])
    have same : ∀ b o, b ≠ S → s'.heap.get? b = some o → h'.get? b = some o := fun b o nb e => by rw [hb.2 b nb]; exact e
    refine wpAny_pure ⟨plainId_quiet PyProof.Rows.F.plain_set_update_loop _, ih (i + 1) _ (by omega) lt (W.frame _ s' _ _ st' (Nat.le_succ _) fun b z o e => same b o (fun q => hSf (q ▸ z)) e) here fun s2 m2 h3 => ?_⟩
    exact hR s2 (Moved.trans W.gtrans ((hm.mono up).then_heap (Nat.le_succ _) fun b o z e => same b o (fun q => z (q ▸ List.mem_cons_self)) e) m2) h3
end
section
variable {prog : Program} {w : World} {A : Around} {E : Value → Shared → Prop} {s : Shared}
abbrev newSet (led : Bool) : Obj := { cls := .type "set", dict := none, data := .set #[] 0 (.fresh 0 0 led) }
theorem sub_ts : isSubtype (.type "tuple") (.type "set") = pure false := by rw [isSubtype_type]; kernel_rfl
theorem sub_tf : isSubtype (.type "tuple") (.type "frozenset") = pure false := by rw [isSubtype_type]; kernel_rfl
set_option maxHeartbeats 6400000 in
theorem set_of_tup {l : Addr} {items : Array Value} {xs : List Str} {Q : Value → Shared → Prop} (hh : A.handled = none) (hl : s.heap.IsTuple l items) (hi : PyProof.Rows.StrsAre items.toList xs) (hn : xs.length ≤ 1000)
    (hq : ∀ (g : Heap) (tk : Nat), g.SetOf (PySem.strKind prog w) s.heap.objs.size (fun k' => (metS xs xs.length).any (· == k')) (metS xs xs.length).length → (∀ b o, s.heap.get? b = some o → g.get? b = some o) → Q (.ref s.heap.objs.size) { s with heap := g, toks := tk }) :
    wpAny (model prog w) A (call (.type "set") [.ref l]) Q E s := by
  obtain ⟨c, tl, hmro⟩ := PySem.F.called_set.mro
  have made := PySem.F.called_set.made
  have subs := PySem.F.called_set.sub
  have sz : xs.length = items.size := by rw [← StrsAre.len_eq hi, Array.length_toList]
  rw [sz] at hq
  refine wpAny_call (codeAny_of_tree ?_)
  show wpAny _ _ (callAny (.type "set") _) _ _ _
  refine wpAny_pure ⟨Code.quiet_builtin _ (by decide +kernel), codeAny_builtin PySem.F.entry_type_call ?_⟩
  rw [Around.under_plain (weight_type_call_type "set" [.ref l] []) rfl]
  have nt := PySem.F.called_set.notType
  have cc := PySem.F.called_set.canCreate
  have tc := PySem.F.typeCall_set_1 (.ref l)
  repeat (any_goals (first | assumption | wp_step))
  refine codeAny_mono (code_set_new_1 (.ref l) (E := E) (Q₁ := fun ob s1 => ∃ led, ob = .ref s.heap.objs.size ∧ s1 = { s with heap := s.heap.push (newSet led) }) fun led => ⟨led, rfl, rfl⟩) fun r s1 hr => ?_
  cases r with
  | error e => exact hr
  | ok fl =>
    cases fl with
    | next => exact hr.elim
    | brk => exact hr.elim
    | cont => exact hr.elim
    | ret ob =>
      obtain ⟨led, rfl, rfl⟩ := hr
      have gS : (s.heap.push (newSet led)).get? s.heap.objs.size = some (newSet led) := Heap.get?_push_size _ rfl
      have tS : Shared.TypeIs { s with heap := s.heap.push (newSet led) } (.ref s.heap.objs.size) "set" := ⟨_, gS, rfl⟩
      have li := PySem.F.called_set.init.lookup
      have bi := PySem.F.called_set.init.bind (.ref s.heap.objs.size)
      repeat (any_goals (first | assumption | wp_step))
      refine codeAny_mono (codeAny_call_builtin (R := wants (fun r s2 => r = .none ∧ ∃ g tk, s2 = { s with heap := g, toks := tk } ∧
          g.SetOf (PySem.strKind prog w) s.heap.objs.size (fun k' => (metS xs items.size).any (· == k')) (metS xs items.size).length ∧ (∀ b o, s.heap.get? b = some o → g.get? b = some o)) E)
          PySem.F.called_set.init.plain PySem.F.entry_set_init (check_set_init_1 tS ?_)) fun r2 s2 h2 => ?_
      · have s1 := sub_ts
        have s3 := sub_tf
        have hl1 : (s.heap.push (newSet led)).IsTuple l items := hl.push _
        have lS : l < s.heap.objs.size := by
          obtain ⟨o, ho, _⟩ := hl
          exact Heap.lt_size ho
        have tT : Shared.TypeIs { s with heap := s.heap.push (newSet led) } (.ref l) "tuple" := by
          obtain ⟨o, ho, hc, _⟩ := hl1
          exact ⟨o, ho, hc⟩
        have ne : (Value.type "tuple" == Value.type "dict") = false := by decide
        unfold Builtin.«set.__init__» noKeywords Builtin.Frozenset.updateFrom
        generalize hPI : pyIter = PI
        wp_walk
        subst hPI
        refine wpAny_pyIter_tuple hl1 (wpAny_bind (wpAny_runValue ?_))
        have e1 : (s.heap.push (newSet led)).objs.size = s.heap.objs.size + 1 := Heap.size_push _ _
        have n1 : l ≠ (s.heap.push (newSet led)).objs.size := by rw [e1]; exact Nat.ne_of_lt (Nat.lt_succ_of_lt lS)
        have n2 : s.heap.objs.size ∉ [(s.heap.push (newSet led)).objs.size, l] := by
          rw [e1]; simp only [List.mem_cons, List.not_mem_nil, or_false, not_or]; exact ⟨Nat.ne_of_lt (Nat.lt_succ_self _), Nat.ne_of_gt lS⟩
        have hv : ∀ (i : Nat) (v : Value), items[i]? = some v → ∃ t, v = .str (xs.getD i Str.empty) t := fun i v q => SS.strs_at hi i v (by rw [Array.getElem?_toList]; exact q)
        have hh3 : A.in1.in1.in1.handled = none := by simp [hh]
        refine loop_strs ((Walks.tuple hh3 _ l n1 items).toS) s.heap.objs.size n2 xs (by omega) hv (items.size - 0) 0 _ (by omega) (Nat.zero_le _) ⟨⟨_, Heap.get?_push_size _ rfl, rfl, rfl⟩, hl1.push _⟩ ?_ ?_
        · exact SetOf_congr ((setObjOf_fresh (knd := PySem.strKind prog w) led).setOf (Heap.get?_push_of_some _ gS) (by unfold scanBound; omega)) (fun _ => rfl) rfl
        · intro s' hm hS'
          obtain ⟨h', g', d', tk', os'⟩ := s'
          obtain rfl : g' = s.gens := hm.gens
          obtain rfl : d' = s.drawn := hm.drawn
          obtain rfl : os' = s.os := hm.os
          show wpAny _ _ _ _ _ _
          refine wpAny_pure ?_
          show wpAny _ _ (ret Value.none) _ _ _
          refine wpAny_pure ⟨rfl, h', tk', rfl, hS', fun b o e => hm.heap b o ?_ (Heap.get?_push_of_some _ (Heap.get?_push_of_some _ e))⟩
          have hb : b < s.heap.objs.size := Heap.lt_size e
          rw [e1]; simp only [List.mem_cons, List.not_mem_nil, or_false, not_or]; exact ⟨Nat.ne_of_lt hb, Nat.ne_of_lt (Nat.lt_succ_of_lt hb)⟩
      · cases r2 with
        | error e => exact h2
        | ok f2 =>
          cases f2 with
          | next => exact h2.elim
          | brk => exact h2.elim
          | cont => exact h2.elim
          | ret r =>
            obtain ⟨rfl, g, tk, rfl, hS, hk⟩ := h2
            repeat (any_goals (first | assumption | wp_step))
            exact hq _ _ hS hk
end
/-- len(set(e)), e a tuple of texts -/
def tLenSetT (K : PySem.W.Frag) (ta : TE) : TE := fun σ H Q => ta σ H fun v H1 => ∃ (a : Addr) (xs : List Str), v = .ref a ∧ SqT K H1 a (xs.map V.str) ∧ xs.length ≤ 1000 ∧ Q (.int ((metS xs xs.length).length : Nat)) H1
theorem pe_lenSetT {X : Cx} {a : Expr} {ta : TE} {p p2 q pos : Pos} (hc : X.calm = true) (hg : Gl X "len") (hm : X.mg "len" = none) (hg2 : Gl X "set") (hm2 : X.mg "set" = none) (ha : PE X a ta)
    (na : starEach [a] X.env = (false, eval a X.env) :: starEach [] X.env := by rfl) : PE X (.Call (.Name "len" p) [.Call (.Name "set" p2) [a] [] q] [] pos) (tLenSetT X.K ta) := by
  constructor
  intro pins s σ H Q I h
  apply Call_ (ld_blt I hg hm boot_len _)
  refine PyProof.Rows.callWith_builtin1 (PyProof.Rows.args_cons (Call_ (ld_blt I hg2 hm2 boot_set ?_)) rfl) rfl rfl
  refine PyProof.Rows.callWith_type1 (PyProof.Rows.args_cons (thn (ha.run pins s σ H _ I h) ?_) na) na rfl
  rintro v s1 ⟨y, H1, I1, r1, l, xs, rfl, hx, hl, q1⟩
  cases r1
  obtain ⟨its, r, pl, hz⟩ := I1.tuple hx
  refine PyProof.Rows.args_nil (set_of_tup (I1.ok.hd hc) pl (by simpa using strsAre_of r) hl fun g tk hS hk => PyProof.Rows.args_nil ?_)
  obtain ⟨o, es, ep, t, ho, hex, hd, _, _, _, hf, hn⟩ := hS
  have I2 : Inv X pins σ H1 { s1 with heap := g, toks := tk } := I1.kept hk
  have ll := metS_len xs xs.length
  exact call_len_set ho hex hd hf (by rw [hn] <;> omega) ⟨.int _, H1, I2.tok _, ⟨_, by rw [hn]⟩, q1⟩
end Pd

set_option maxHeartbeats 4000000
namespace Pd
open PySem PySem.Spec PyProof.Rows L2
/-! ### len(set(x)), x any text -/
section
variable {prog : Program} {w : World} {A : Around} {E : Value → Shared → Prop} {s : Shared}
set_option maxHeartbeats 6400000 in
theorem set_of_str {x : Str} {t : Tok} {xs : List Str} {Q : Value → Shared → Prop} (hh : A.handled = none) (hx : xs = x.cps.toList.map fun c => (⟨#[c]⟩ : Str)) (hn : xs.length ≤ 1000)
    (hq : ∀ (g : Heap) (tk : Nat), g.SetOf (PySem.strKind prog w) s.heap.objs.size (fun k' => (metS xs xs.length).any (· == k')) (metS xs xs.length).length → (∀ b o, s.heap.get? b = some o → g.get? b = some o) → Q (.ref s.heap.objs.size) { s with heap := g, toks := tk }) :
    wpAny (model prog w) A (call (.type "set") [.str x t]) Q E s := by
  obtain ⟨c, tl, hmro⟩ := PySem.F.called_set.mro
  have made := PySem.F.called_set.made
  have subs := PySem.F.called_set.sub
  have sz : xs.length = x.cps.size := by rw [hx, List.length_map, Array.length_toList]
  rw [sz] at hq
  refine wpAny_call (codeAny_of_tree ?_)
  show wpAny _ _ (callAny (.type "set") _) _ _ _
  refine wpAny_pure ⟨Code.quiet_builtin _ (by decide +kernel), codeAny_builtin PySem.F.entry_type_call ?_⟩
  rw [Around.under_plain (weight_type_call_type "set" [.str x t] []) rfl]
  have nt := PySem.F.called_set.notType
  have cc := PySem.F.called_set.canCreate
  have tc := PySem.F.typeCall_set_1 (.str x t)
  repeat (any_goals (first | assumption | wp_step))
  refine codeAny_mono (code_set_new_1 (.str x t) (E := E) (Q₁ := fun ob s1 => ∃ led, ob = .ref s.heap.objs.size ∧ s1 = { s with heap := s.heap.push (newSet led) }) fun led => ⟨led, rfl, rfl⟩) fun r s1 hr => ?_
  cases r with
  | error e => exact hr
  | ok fl =>
    cases fl with
    | next => exact hr.elim
    | brk => exact hr.elim
    | cont => exact hr.elim
    | ret ob =>
      obtain ⟨led, rfl, rfl⟩ := hr
      have gS : (s.heap.push (newSet led)).get? s.heap.objs.size = some (newSet led) := Heap.get?_push_size _ rfl
      have tS : Shared.TypeIs { s with heap := s.heap.push (newSet led) } (.ref s.heap.objs.size) "set" := ⟨_, gS, rfl⟩
      have li := PySem.F.called_set.init.lookup
      have bi := PySem.F.called_set.init.bind (.ref s.heap.objs.size)
      repeat (any_goals (first | assumption | wp_step))
      refine codeAny_mono (codeAny_call_builtin (R := wants (fun r s2 => r = .none ∧ ∃ g tk, s2 = { s with heap := g, toks := tk } ∧
          g.SetOf (PySem.strKind prog w) s.heap.objs.size (fun k' => (metS xs x.cps.size).any (· == k')) (metS xs x.cps.size).length ∧ (∀ b o, s.heap.get? b = some o → g.get? b = some o)) E)
          PySem.F.called_set.init.plain PySem.F.entry_set_init (check_set_init_1 tS ?_)) fun r2 s2 h2 => ?_
      · have s1 := sub_ss
        have s3 := sub_sf
        have tT : Shared.TypeIs { s with heap := s.heap.push (newSet led) } (.str x t) "str" := typeIs_str _ _ _
        have ne : (Value.type "str" == Value.type "dict") = false := by decide
        unfold Builtin.«set.__init__» noKeywords Builtin.Frozenset.updateFrom
        generalize hPI : pyIter = PI
        wp_walk
        subst hPI
        refine wpAny_pyIter_str fun ob St hW hSt => wpAny_bind (wpAny_runValue ?_)
        have e1 : (s.heap.push (newSet led)).objs.size = s.heap.objs.size + 1 := Heap.size_push _ _
        have n2 : s.heap.objs.size ∉ [(s.heap.push (newSet led)).objs.size] := by
          rw [e1]; simp only [List.mem_cons, List.not_mem_nil, or_false]; exact Nat.ne_of_lt (Nat.lt_succ_self _)
        have hv : ∀ (i : Nat) (v : Value), SignAt x i v → ∃ t, v = .str (xs.getD i Str.empty) t := fun i v ⟨c, u, q, e⟩ => by
          refine ⟨u, ?_⟩
          have z : xs[i]? = some (⟨#[c]⟩ : Str) := by
            rw [hx, List.getElem?_map]
            have : x.cps.toList[i]? = some c := by rw [Array.getElem?_toList]; exact q
            rw [this]; rfl
          rw [e, List.getD_eq_getElem?_getD, z]; rfl
        have hh3 : A.in1.in1.in1.handled = none := by simp [hh]
        refine loop_strs (hW _ hh3).toS s.heap.objs.size n2 xs (by omega) hv (x.cps.size - 0) 0 _ (by omega) (Nat.zero_le _) hSt ?_ ?_
        · exact SetOf_congr ((setObjOf_fresh (knd := PySem.strKind prog w) led).setOf (Heap.get?_push_of_some _ gS) (by unfold scanBound; omega)) (fun _ => rfl) rfl
        · intro s' hm hS'
          obtain ⟨h', g', d', tk', os'⟩ := s'
          obtain rfl : g' = s.gens := hm.gens
          obtain rfl : d' = s.drawn := hm.drawn
          obtain rfl : os' = s.os := hm.os
          show wpAny _ _ _ _ _ _
          refine wpAny_pure ?_
          show wpAny _ _ (ret Value.none) _ _ _
          refine wpAny_pure ⟨rfl, h', tk', rfl, hS', fun b o e => hm.heap b o ?_ (Heap.get?_push_of_some _ (Heap.get?_push_of_some _ e))⟩
          have hb : b < s.heap.objs.size := Heap.lt_size e
          rw [e1]; simp only [List.mem_cons, List.not_mem_nil, or_false, not_or]; exact ⟨Nat.ne_of_lt hb, Nat.ne_of_lt (Nat.lt_succ_of_lt hb)⟩
      · cases r2 with
        | error e => exact h2
        | ok f2 =>
          cases f2 with
          | next => exact h2.elim
          | brk => exact h2.elim
          | cont => exact h2.elim
          | ret r =>
            obtain ⟨rfl, g, tk, rfl, hS, hk⟩ := h2
            repeat (any_goals (first | assumption | wp_step))
            exact hq _ _ hS hk
end
def sgnsOf (x : Str) : List Str := x.cps.toList.map fun c => (⟨#[c]⟩ : Str)
def tLenSetX (ta : TE) : TE := fun σ H Q => ta σ H fun v H1 => ∃ x : Str, v = .str x ∧ x.cps.toList.length ≤ 1000 ∧ Q (.int ((metS (sgnsOf x) (sgnsOf x).length).length : Nat)) H1
theorem pe_lenSetX {X : Cx} {a : Expr} {ta : TE} {p p2 q pos : Pos} (hc : X.calm = true) (hg : Gl X "len") (hm : X.mg "len" = none) (hg2 : Gl X "set") (hm2 : X.mg "set" = none) (ha : PE X a ta)
    (na : starEach [a] X.env = (false, eval a X.env) :: starEach [] X.env := by rfl) : PE X (.Call (.Name "len" p) [.Call (.Name "set" p2) [a] [] q] [] pos) (tLenSetX ta) := by
  constructor
  intro pins s σ H Q I h
  apply Call_ (ld_blt I hg hm boot_len _)
  refine PyProof.Rows.callWith_builtin1 (PyProof.Rows.args_cons (Call_ (ld_blt I hg2 hm2 boot_set ?_)) rfl) rfl rfl
  refine PyProof.Rows.callWith_type1 (PyProof.Rows.args_cons (thn (ha.run pins s σ H _ I h) ?_) na) na rfl
  rintro v s1 ⟨y, H1, I1, r1, x, rfl, hl, q1⟩
  obtain ⟨t, rfl⟩ := r1
  refine PyProof.Rows.args_nil (set_of_str (I1.ok.hd hc) (xs := sgnsOf x) rfl (by unfold sgnsOf; rw [List.length_map]; exact hl) fun g tk hS hk => PyProof.Rows.args_nil ?_)
  obtain ⟨o, es, ep, t', ho, hex, hd, _, _, _, hf, hn⟩ := hS
  have I2 : Inv X pins σ H1 { s1 with heap := g, toks := tk } := I1.kept hk
  have ll := metS_len (sgnsOf x) (sgnsOf x).length
  have l2 : (sgnsOf x).length ≤ 1000 := by unfold sgnsOf; rw [List.length_map]; exact hl
  exact call_len_set ho hex hd hf (by rw [hn] <;> omega) ⟨.int _, H1, I2.tok _, ⟨_, by rw [hn]⟩, q1⟩
end Pd

set_option maxHeartbeats 4000000
namespace Pd
open PySem PySem.Spec PyProof.Rows L2 SX
/-! ### what is no step -/
inductive Ds where
  | txt (l : List Nat)
  | num (i : Int)
  | oth
def choB (l : List Nat) : Bool := decide (1 ≤ l.length) && (decide (l.length ≤ 10) && (decide l.Nodup && (l.map fun c => isChr [c]).all id))
def Ds.chr : Ds → Bool
  | .txt l => isChr l
  | _ => false
def Ds.cho : Ds → Bool
  | .txt l => choB l
  | _ => false
def Ds.isI : Ds → Bool
  | .num _ => true
  | _ => false
def Ds.cut : Ds → Bool
  | .num i => decide (1 ≤ i) && decide (i ≤ 9)
  | _ => false
theorem sqL_ty {K : PySem.W.Frag} {H : Hp} {a : Addr} {xs : List V} (h : SqL K H a xs) : TyX K H (.ref a) (.type "list") := by
  rcases h with (h | ⟨o, h⟩) | ⟨o, its, n, h, c, _⟩
  · exact .base (.lst h)
  · exact .base (.frz h)
  · exact .kList h c
inductive It (K : PySem.W.Frag) (H : Hp) : V → Ds → Prop where
  | txt (l : List Nat) (h : l.length ≤ 1000) : It K H (.str (S l)) (.txt l)
  | num (i : Int) : It K H (.int i) (.num i)
  | non : It K H .non .oth
  | bl (b : Bool) : It K H (.bl b) .oth
  | lst {a : Addr} {xs : List V} (h : SqL K H a xs) : It K H (.ref a) .oth
  | tup {a : Addr} {xs : List V} (h : SqT K H a xs) : It K H (.ref a) .oth
  | dct {a : Addr} {kvs : List (Key × V)} (h : H a = some (.dK kvs)) : It K H (.ref a) .oth
theorem It.ext {K : PySem.W.Frag} {H H' : Hp} {x : V} {d : Ds} (h : It K H x d) (k : Ext H H') : It K H' x d := by
  cases h with
  | txt l h => exact .txt l h
  | num i => exact .num i
  | non => exact .non
  | bl b => exact .bl b
  | lst h => exact .lst (sqL_keep h fun o e => k _ o e)
  | tup h => exact .tup (sqT_keep h fun o e => k _ o e)
  | dct h => exact .dct (k _ _ h)
/-- no string at all -/
def NoStr (K : PySem.W.Frag) (H : Hp) (x : V) : Prop := ∃ t : String, TyX K H x (.type t) ∧ kitB t "str" = some false
theorem It.no {K : PySem.W.Frag} {H : Hp} {x : V} {d : Ds} (h : It K H x d) : (NoStr K H x ∧ d.chr = false ∧ d.cho = false) ∨ ∃ l, x = .str (S l) ∧ d = .txt l ∧ l.length ≤ 1000 := by
  cases h with
  | txt l h => exact .inr ⟨l, rfl, rfl, h⟩
  | num i => exact .inl ⟨⟨_, .base (.int i), by decide +kernel⟩, rfl, rfl⟩
  | non => exact .inl ⟨⟨_, .base .non, by decide +kernel⟩, rfl, rfl⟩
  | bl b => exact .inl ⟨⟨_, .base (.bl b), by decide +kernel⟩, rfl, rfl⟩
  | lst h => exact .inl ⟨⟨_, sqL_ty h, by decide +kernel⟩, rfl, rfl⟩
  | tup h => exact .inl ⟨⟨_, sqT_ty h, by decide +kernel⟩, rfl, rfl⟩
  | dct h => exact .inl ⟨⟨_, .base (.dK h), by decide +kernel⟩, rfl, rfl⟩
theorem fnOk_or {P : Program} {w : World} {K : PySem.W.Frag} {mg : Str → Option Value} {base : Heap} {CX : CXT} {k : Nat} {f : Addr} {fd : FuncData} {ps : List Str} {sp sp1 sp2 : Sp} (F1 : FnOk P w K mg base CX k f fd ps sp1) (F2 : FnOk P w K mg base CX k f fd ps sp2)
    (h : ∀ vs H Q E, sp vs H Q E → sp1 vs H Q E ∨ sp2 vs H Q E) : FnOk P w K mg base CX k f fd ps sp :=
  ⟨fun vs H Q E x => (h vs H Q E x).elim (F1.len vs H Q E) (F2.len vs H Q E), fun A outer s H args us vs Q E hr e0 hb r x => (h vs H Q E x).elim (F1.run A outer s H args us vs Q E hr e0 hb r) (F2.run A outer s H args us vs Q E hr e0 hb r)⟩
def spNoStr (K : PySem.W.Frag) : Sp := fun vs H Q _ => ∃ x, vs = [x] ∧ NoStr K H x ∧ Q (.bl false) H
def spCharE (K : PySem.W.Frag) : Sp := fun vs H Q _ => ∃ x d, vs = [x] ∧ It K H x d ∧ Q (.bl d.chr) H
def spChoiceE (K : PySem.W.Frag) : Sp := fun vs H Q _ => ∃ x d, vs = [x] ∧ It K H x d ∧ ∀ H', Ext H H' → Q (.bl d.cho) H'
def spIntE (K : PySem.W.Frag) : Sp := fun vs H Q _ => ∃ x d, vs = [x] ∧ It K H x d ∧ Q (.bl d.isI) H
theorem nodup_sgns (l : List Nat) : (sgnsOf (S l)).Nodup ↔ l.Nodup := by
  have e : sgnsOf (S l) = l.map fun c => (⟨#[c]⟩ : Str) := by unfold sgnsOf; rfl
  rw [e]
  unfold List.Nodup
  rw [List.pairwise_map]
  refine ⟨fun h => h.imp fun z q => z (by rw [q]), fun h => h.imp fun z q => z ?_⟩
  injection q with q
  have := congrArg Array.toList q
  simpa using this
section
variable {P : Program} {w : World} {K : PySem.W.Frag} {mg : Str → Option Value} {base : Heap}
theorem ok_isCharN {f : Addr} {fd : FuncData} (F : Fun K "is_character" "is_character" sIsCharacter f fd) (T : Nms mg) (C : Cst mg) : FnOk P w K mg base CX0 1 f fd ["value"] (spNoStr K) := by
  refine F.ok scIsCharacter (fun vs H Q E h => ?_) (fun cdv A outer s H vs Q E hr h => ?_)
  · obtain ⟨l, rfl, _⟩ := h
    rfl
  · obtain ⟨x, rfl, ⟨t, ty, kb⟩, q⟩ := h
    have nd := scIsCharacter.nd
    obtain ⟨tc, hc⟩ := C.chars
    refine ⟨_, pss_one (ps_ret (pe_and (pe_callB call_isi (by rfl) T.isi (by decide +kernel) (pa_cons (pv 0) (pa_cons (pe_bltn (v := .ty "str") (by rfl) T.str (by decide +kernel) rfl) pa_nil)))
      (pe_and (pe_cmpR op_eq (pe_callB call_len_str (by rfl) T.len PySem.boot_len (pa_cons (pv 0) pa_nil)) pe_int (nomark _)) (pe_one (pe_cmpR op_in_sign (pv 0) (pe_glob (v := .str _) rfl hc ⟨_, rfl⟩) rfl))))), ?_⟩
    exact ⟨_, rfl, _, _, _, _, false, rfl, .ty "str", ty, kit_ty kb, false, rfl, iteF q⟩
theorem ok_charE {f : Addr} {fd : FuncData} (F : Fun K "is_character" "is_character" sIsCharacter f fd) (T : Nms mg) (C : Cst mg) : FnOk P w K mg base CX0 1 f fd ["value"] (spCharE K) :=
  fnOk_or (ok_isChar F T C) (ok_isCharN F T C) fun vs H Q E ⟨x, d, e, h, q⟩ => by
    subst e
    rcases h.no with ⟨n, e, _⟩ | ⟨l, rfl, rfl, hl⟩
    · rw [e] at q; exact .inr ⟨x, rfl, n, q⟩
    · exact .inl ⟨l, rfl, hl, q⟩
theorem ok_intE {f : Addr} {fd : FuncData} (F : Fun K "is_integer" "is_integer" sIsInteger f fd) (T : Nms mg) : FnOk P w K mg base CX0 1 f fd ["value"] (spIntE K) := by
  refine F.ok scIsInteger (fun vs H Q E h => ?_) (fun cdv A outer s H vs Q E hr h => ?_)
  · obtain ⟨x, d, rfl, _⟩ := h
    rfl
  · obtain ⟨x, d, rfl, hx, q⟩ := h
    refine ⟨_, pss_one (ps_ret (pe_and (pe_callB call_isi (by rfl) T.isi (by decide +kernel) (pa_cons (pv 0) (pa_cons (pe_bltn (v := .ty "int") (by rfl) T.int (by decide +kernel) rfl) pa_nil)))
      (pe_one (pe_not (pe_callB call_isi (by rfl) T.isi (by decide +kernel) (pa_cons (pv 0) (pa_cons (pe_bltn (v := .ty "bool") (by rfl) T.bool (by decide +kernel) rfl) pa_nil))))))), ?_⟩
    cases hx with
    | num i =>
      refine ⟨_, rfl, _, _, _, _, true, rfl, .ty "int", .base (.int i), kit_ty (by decide +kernel), true, rfl, iteT ?_⟩
      exact ⟨_, rfl, _, _, _, _, false, rfl, .ty "bool", .base (.int i), kit_ty (by decide +kernel), false, rfl, q⟩
    | bl b =>
      refine ⟨_, rfl, _, _, _, _, true, rfl, .ty "int", .base (.bl b), kit_ty (by decide +kernel), true, rfl, iteT ?_⟩
      exact ⟨_, rfl, _, _, _, _, true, rfl, .ty "bool", .base (.bl b), kit_ty (by decide +kernel), true, rfl, q⟩
    | txt l h => exact ⟨_, rfl, _, _, _, _, false, rfl, .ty "int", .base (.str _), kit_ty (by decide +kernel), false, rfl, iteF q⟩
    | non => exact ⟨_, rfl, _, _, _, _, false, rfl, .ty "int", .base .non, kit_ty (by decide +kernel), false, rfl, iteF q⟩
    | lst h => exact ⟨_, rfl, _, _, _, _, false, rfl, .ty "int", sqL_ty h, kit_ty (by decide +kernel), false, rfl, iteF q⟩
    | tup h => exact ⟨_, rfl, _, _, _, _, false, rfl, .ty "int", sqT_ty h, kit_ty (by decide +kernel), false, rfl, iteF q⟩
    | dct h => exact ⟨_, rfl, _, _, _, _, false, rfl, .ty "int", .base (.dK h), kit_ty (by decide +kernel), false, rfl, iteF q⟩
theorem ok_choiceE {f : Addr} {fd : FuncData} (F : Fun K "_is_choice" "_is_choice" sIsChoice f fd) (T : Nms mg) (C : Cst mg) (G : Cl P w K mg base 1 "is_character" spIsChar) : FnOk P w K mg base CX0 2 f fd ["value"] (spChoiceE K) := by
  refine F.ok scIsChoice (fun vs H Q E h => ?_) (fun cdv A outer s H vs Q E hr h => ?_)
  · obtain ⟨x, d, rfl, _⟩ := h
    rfl
  · obtain ⟨x, d, rfl, hx, q⟩ := h
    have nd := scIsChoice.nd
    obtain ⟨td, hd⟩ := C.drop
    refine ⟨_, pss_cons (ps_if (PW.pt (pw_or (pt_not (pt_val (pe_callB call_isi (by rfl) T.isi (by decide +kernel) (pa_cons (pv 0) (pa_cons (pe_bltn (v := .ty "str") (by rfl) T.str (by decide +kernel) rfl) pa_nil)))))
        (pw_or1 (pt_not (pt_chain op_le op_le pe_int (pe_callB call_len_str (by rfl) T.len PySem.boot_len (pa_cons (pv 0) pa_nil)) (pe_glob (v := .int 10) rfl hd ⟨_, rfl⟩)))))) (pss_one (ps_ret pe_bl)) pss_nil)
      (pss_one (ps_ret (pe_and (pe_cmpR op_eq (pe_lenSetX rfl rfl T.len rfl T.set (pv 0)) (pe_callB call_len_str (by rfl) T.len PySem.boot_len (pa_cons (pv 0) pa_nil)) (nomark _))
        (pe_one (pe_callB (cr_all rfl) (by rfl) T.all (by decide +kernel) (pa_cons (pe_lc (own := [("character", 1)]) (g := gName 1) (tt := tYes) rfl nd (pi_str (pv 0)) (blkOk_by (N := ["value", "character"]) (sc := defScope sIsChoice) (by decide +kernel)) (fun _ _ _ _ _ => pg_name (i := 1) nd rfl (Or.inl rfl)) (fun _ _ _ _ _ => pts_nil)
          (fun _ _ _ _ _ => pe_cl G hr (by decide) rfl (pa_cons (pv 1) pa_nil))) pa_nil)))))), ?_⟩
    rcases hx.no with ⟨⟨t, ty, kb⟩, _, e⟩ | ⟨cs, rfl, rfl, hl⟩
    · rw [e] at q
      exact ⟨_, rfl, _, _, _, _, false, rfl, .ty "str", ty, kit_ty kb, false, rfl, iteT (iteT (q H .refl))⟩
    refine ⟨_, rfl, _, _, _, _, true, rfl, .ty "str", .base (.str _), kit_ty (by decide +kernel), true, rfl, ?_⟩
    refine iteF ⟨_, rfl, _, rfl, by rw [S_len, sizeLine_eq]; omega, _, _, rfl, rfl, _, rfl, ?_⟩
    rw [S_len]
    have ech : (Ds.txt cs).cho = choB cs := rfl
    rw [ech] at q
    by_cases h1 : 1 ≤ cs.length
    case neg =>
      rw [decide_eq_false (show ¬ (1 : Int) ≤ (cs.length : Nat) by omega)]
      refine iteF ⟨_, rfl, iteT ?_⟩
      have e : choB cs = false := by unfold choB; rw [decide_eq_false h1]; rfl
      rw [e] at q; exact q H .refl
    rw [decide_eq_true (show (1 : Int) ≤ (cs.length : Nat) by omega)]
    refine iteT ⟨_, _, rfl, rfl, _, rfl, ?_⟩
    by_cases h2 : cs.length ≤ 10
    case neg =>
      rw [decide_eq_false (show ¬ ((cs.length : Nat) : Int) ≤ 10 by omega)]
      refine iteT ?_
      have e : choB cs = false := by unfold choB; rw [decide_eq_false h2, Bool.false_and, Bool.and_false]
      rw [e] at q; exact q H .refl
    rw [decide_eq_true (show ((cs.length : Nat) : Int) ≤ 10 by omega)]
    refine iteF ?_
    refine ⟨_, rfl, S cs, rfl, by show cs.length ≤ 1000; omega, _, rfl, _, rfl, by rw [S_len, sizeLine_eq]; omega, rfl, _, rfl, ?_⟩
    rw [S_len]
    have ls : (sgnsOf (S cs)).length = cs.length := by unfold sgnsOf; rw [List.length_map]
    have key : decide (V.int ((metS (sgnsOf (S cs)) (sgnsOf (S cs)).length).length : Nat) = V.int ((cs.length : Nat) : Int)) = decide cs.Nodup := by
      refine decide_eq_decide.mpr ⟨fun z => ?_, fun z => ?_⟩
      · injection z with z
        have z' : (metS (sgnsOf (S cs)) (sgnsOf (S cs)).length).length = (sgnsOf (S cs)).length := by omega
        have y := (metS_full (sgnsOf (S cs)) _ (Nat.le_refl _)).mp z'
        rw [List.take_length] at y
        exact (nodup_sgns cs).mp y
      · have y := (metS_full (sgnsOf (S cs)) _ (Nat.le_refl _)).mpr (by rw [List.take_length]; exact (nodup_sgns cs).mpr z)
        rw [y, ls]
    rw [key]
    by_cases h3 : cs.Nodup
    case neg =>
      rw [decide_eq_false h3]
      refine iteF ?_
      have e : choB cs = false := by unfold choB; rw [decide_eq_false h3, Bool.false_and, Bool.and_false, Bool.and_false]
      rw [e] at q; exact q H .refl
    rw [decide_eq_true h3]
    refine iteT ⟨_, rfl, _, rfl, fun D hD => lc_vals (fun c => V.bl (isChr [c])) (by omega) hD (fun c H2 acc Nx hc' k2 hacc hal nx => ⟨rfl, _, rfl, [c], rfl, by simp, acc, hacc, hal, nx _ upd_same (k2.new hD)⟩) fun H2 e2 k2 => ?_⟩
    refine ⟨D, cs.map (fun c => isChr [c]), rfl, SqL.of (by rw [List.map_map]; exact e2), ?_⟩
    have e : choB cs = (cs.map (fun c => isChr [c])).all id := by unfold choB; rw [decide_eq_true h1, decide_eq_true h2, decide_eq_true h3]; rfl
    rw [e] at q
    exact q H2 k2
end
end Pd

set_option maxHeartbeats 4000000
namespace Pd
open PySem PySem.Spec PyProof.Rows L2 SX
theorem at0 {x : V} {xs : List V} : atI (x :: xs) 0 = some x := atI_nat (j := 0) rfl
theorem at1 {x y : V} {xs : List V} : atI (x :: y :: xs) 1 = some y := atI_nat (j := 1) rfl
theorem at2 {x y z : V} {xs : List V} : atI (x :: y :: z :: xs) 2 = some z := atI_nat (j := 2) rfl
/-- what is_step tells of a tuple that begins with a string -/
def stpB (s : Str) (ds : List Ds) : Bool :=
  if V.str s = V.str "lower" then decide (ds.length = 0) else
  if V.str s = V.str "swap" then (match ds with
    | [a, b] => a.chr && b.chr
    | _ => false) else
  match ds with
  | [a] => if V.str s = V.str "drop" then a.cho else if V.str s = V.str "lead" ∨ V.str s = V.str "once" then a.chr else decide (V.str s = V.str "cut") && (a.isI && a.cut)
  | _ => false
inductive Its (K : PySem.W.Frag) (H : Hp) : List V → List Ds → Prop where
  | nil : Its K H [] []
  | cons {x : V} {d : Ds} {xs : List V} {ds : List Ds} (h : It K H x d) (t : Its K H xs ds) : Its K H (x :: xs) (d :: ds)
theorem Its.ext {K : PySem.W.Frag} {H H' : Hp} (k : Ext H H') : ∀ {xs : List V} {ds : List Ds}, Its K H xs ds → Its K H' xs ds
  | _, _, .nil => .nil
  | _, _, .cons h t => .cons (h.ext k) (t.ext k)
theorem Its.len {K : PySem.W.Frag} {H : Hp} : ∀ {xs : List V} {ds : List Ds}, Its K H xs ds → xs.length = ds.length
  | _, _, .nil => rfl
  | _, _, .cons h t => congrArg (· + 1) t.len
/-- what is no step -/
inductive NoStp (K : PySem.W.Frag) (H : Hp) : V → Prop where
  | kind {x : V} {t : String} (h : TyX K H x (.type t)) (n : kitB t "tuple" = some false) : NoStp K H x
  | nil {a : Addr} (h : SqT K H a []) : NoStp K H (.ref a)
  | fst {a : Addr} {x : V} {xs : List V} (h : SqT K H a (x :: xs)) (n : NoStr K H x) : NoStp K H (.ref a)
  | bad {a : Addr} {s : Str} {xs : List V} {ds : List Ds} (h : SqT K H a (.str s :: xs)) (i : Its K H xs ds) (n : stpB s ds = false) : NoStp K H (.ref a)
def spStepN (K : PySem.W.Frag) : Sp := fun vs H Q _ => ∃ x, vs = [x] ∧ NoStp K H x ∧ ∀ H', Ext H H' → Q (.bl false) H'
section
variable {P : Program} {w : World} {K : PySem.W.Frag} {mg : Str → Option Value} {base : Heap}
theorem ok_stepN {f : Addr} {fd : FuncData} (F : Fun K "is_step" "is_step" sIsStep f fd) (T : Nms mg) (C : Cst mg) (G : Cl P w K mg base 1 "is_character" (spCharE K)) (G2 : Cl P w K mg base 2 "_is_choice" (spChoiceE K)) (G3 : Cl P w K mg base 1 "is_integer" (spIntE K)) : FnOk P w K mg base CX0 3 f fd ["value"] (spStepN K) := by
  refine F.ok scIsStep (fun vs H Q E h => ?_) (fun cdv A outer s H vs Q E hr h => ?_)
  · obtain ⟨x, rfl, _⟩ := h
    rfl
  · obtain ⟨x, rfl, hx, q⟩ := h
    have nd := scIsStep.nd
    obtain ⟨tc, hc⟩ := C.cut
    refine ⟨_, pss_cons (ps_if (PW.pt (pw_or (pt_not (pt_val (pe_callB call_isi (by rfl) T.isi (by decide +kernel) (pa_cons (pv 0) (pa_cons (pe_bltn (v := .ty "tuple") (by rfl) T.tuple (by decide +kernel) rfl) pa_nil)))))
        (pw_or (pt_cmpR op_eq (pe_callB call_len_seq (by rfl) T.len PySem.boot_len (pa_cons (pv 0) pa_nil)) pe_int (nomark _))
        (pw_or1 (pt_not (pt_val (pe_callB call_isi (by rfl) T.isi (by decide +kernel) (pa_cons (pe_ix ix_tup (pv 0) pe_int (fun _ _ => rfl)) (pa_cons (pe_bltn (v := .ty "str") (by rfl) T.str (by decide +kernel) rfl) pa_nil))))))))) (pss_one (ps_ret pe_bl)) pss_nil)
      (pss_cons (ps_set (i := 1) nd rfl (Or.inl rfl) (pe_ix ix_tup (pv 0) pe_int (fun _ _ => rfl)))
      (pss_cons (ps_if (pt_cmpR op_eq (pv 1) pe_str (nomark _)) (pss_one (ps_ret (pe_cmpR op_eq (pe_callB call_len_seq (by rfl) T.len PySem.boot_len (pa_cons (pv 0) pa_nil)) pe_int (nomark _)))) pss_nil)
      (pss_cons (ps_if (pt_cmpR op_eq (pv 1) pe_str (nomark _)) (pss_one (ps_ret (pe_and (pe_cmpR op_eq (pe_callB call_len_seq (by rfl) T.len PySem.boot_len (pa_cons (pv 0) pa_nil)) pe_int (nomark _))
        (pe_and (pe_cl G hr (by decide) rfl (pa_cons (pe_ix ix_tup (pv 0) pe_int (fun _ _ => rfl)) pa_nil)) (pe_one (pe_cl G hr (by decide) rfl (pa_cons (pe_ix ix_tup (pv 0) pe_int (fun _ _ => rfl)) pa_nil))))))) pss_nil)
      (pss_cons (ps_if (pt_cmpR op_ne (pe_callB call_len_seq (by rfl) T.len PySem.boot_len (pa_cons (pv 0) pa_nil)) pe_int (nomark _)) (pss_one (ps_ret pe_bl)) pss_nil)
      (pss_cons (ps_if (pt_cmpR op_eq (pv 1) pe_str (nomark _)) (pss_one (ps_ret (pe_cl G2 hr (by decide) rfl (pa_cons (pe_ix ix_tup (pv 0) pe_int (fun _ _ => rfl)) pa_nil)))) pss_nil)
      (pss_cons (ps_if (PW.pt (pw_or (pt_cmpR op_eq (pv 1) pe_str (nomark _)) (pw_or1 (pt_cmpR op_eq (pv 1) pe_str (nomark _))))) (pss_one (ps_ret (pe_cl G hr (by decide) rfl (pa_cons (pe_ix ix_tup (pv 0) pe_int (fun _ _ => rfl)) pa_nil)))) pss_nil)
      (pss_one (ps_ret (pe_and (pe_cmpR op_eq (pv 1) pe_str (nomark _)) (pe_and (pe_cl G3 hr (by decide) rfl (pa_cons (pe_ix ix_tup (pv 0) pe_int (fun _ _ => rfl)) pa_nil))
        (pe_one (pe_chain op_le op_le pe_int (pe_ix ix_tup (pv 0) pe_int (fun _ _ => rfl)) (pe_glob (v := .int 9) rfl hc ⟨_, rfl⟩))))))))))))), ?_⟩
    cases hx with
    | @kind x t ty kb => exact ⟨_, rfl, _, _, _, _, false, rfl, .ty "tuple", ty, kit_ty kb, false, rfl, iteT (iteT (q H .refl))⟩
    | @nil a h =>
      refine ⟨_, rfl, _, _, _, _, true, rfl, .ty "tuple", sqT_ty h, kit_ty (by decide +kernel), true, rfl, iteF ?_⟩
      exact ⟨_, rfl, a, _, rfl, .inr h, rfl, true, rfl, iteT (iteT (q H .refl))⟩
    | @fst a x xs h n =>
      obtain ⟨t, ty, kb⟩ := n
      have e0 : decide (V.int (((x :: xs).length : Nat) : Int) = V.int 0) = false := decide_eq_false fun z => by injection z with z; rw [List.length_cons] at z; omega
      refine ⟨_, rfl, _, _, _, _, true, rfl, .ty "tuple", sqT_ty h, kit_ty (by decide +kernel), true, rfl, iteF ?_⟩
      refine ⟨_, rfl, a, _, rfl, .inr h, rfl, _, rfl, ?_⟩
      rw [e0]
      exact iteF ⟨_, rfl, a, _, 0, _, rfl, rfl, h, at0, _, _, _, _, false, rfl, .ty "str", ty, kit_ty kb, false, rfl, iteT (q H .refl)⟩
    | @bad a s xs ds h its n =>
      have e0 : decide (V.int (((V.str s :: xs).length : Nat) : Int) = V.int 0) = false := decide_eq_false fun z => by injection z with z; rw [List.length_cons] at z; omega
      have ll := its.len
      refine ⟨_, rfl, _, _, _, _, true, rfl, .ty "tuple", sqT_ty h, kit_ty (by decide +kernel), true, rfl, iteF ?_⟩
      refine ⟨_, rfl, a, _, rfl, .inr h, rfl, _, rfl, ?_⟩
      rw [e0]
      refine iteF ⟨_, rfl, a, _, 0, _, rfl, rfl, h, at0, _, _, _, _, true, rfl, .ty "str", .base (.str _), kit_ty (by decide +kernel), true, rfl, ?_⟩
      refine iteF ⟨_, rfl, a, _, 0, _, rfl, rfl, h, at0, ?_⟩
      -- lower
      refine ⟨_, rfl, rfl, _, rfl, ite2 (fun hl => ?_) (fun hl => ?_)⟩
      · replace hl := of_decide_eq_true hl
        refine ⟨_, rfl, a, _, rfl, .inr h, rfl, ?_⟩
        unfold stpB at n
        rw [if_pos hl] at n
        have e : decide (V.int (((V.str s :: xs).length : Nat) : Int) = V.int 1) = false := decide_eq_false fun z => by
          injection z with z
          rw [List.length_cons] at z
          exact of_decide_eq_false n (by omega)
        rw [e]
        exact q H .refl
      replace hl : ¬ V.str s = V.str "lower" := fun z => hl (decide_eq_true z)
      unfold stpB at n
      rw [if_neg hl] at n
      -- swap
      refine ⟨_, rfl, rfl, _, rfl, ite2 (fun hs => ?_) (fun hs => ?_)⟩
      · replace hs := of_decide_eq_true hs
        rw [if_pos hs] at n
        refine ⟨_, rfl, a, _, rfl, .inr h, rfl, _, rfl, ?_⟩
        have no3 : xs.length ≠ 2 → decide (V.int (((V.str s :: xs).length : Nat) : Int) = V.int 3) = false := fun l => decide_eq_false fun z => by
          injection z with z
          rw [List.length_cons] at z
          omega
        cases its with
        | nil => rw [no3 (by decide)]; exact iteF (q H .refl)
        | @cons x d xs ds hx t =>
          cases t with
          | nil => rw [no3 (by show 1 ≠ 2; decide)]; exact iteF (q H .refl)
          | @cons y e ys es hy t2 =>
            cases t2 with
            | cons _ t3 => rw [no3 (by simp only [List.length_cons]; omega)]; exact iteF (q H .refl)
            | nil =>
              clear no3
              have y3 : decide (V.int (([V.str s, x, y].length : Nat) : Int) = V.int 3) = true := decide_eq_true rfl
              rw [y3]
              refine iteT ⟨_, rfl, a, _, 1, _, rfl, rfl, h, at1, x, d, rfl, hx, _, rfl, ?_⟩
              replace n : (d.chr && e.chr) = false := n
              cases hd : d.chr with
              | false => exact iteF (q H .refl)
              | true =>
                rw [hd, Bool.true_and] at n
                refine iteT ⟨_, rfl, a, _, 2, _, rfl, rfl, h, at2, y, e, rfl, hy, ?_⟩
                rw [n]
                exact q H .refl
      replace hs : ¬ V.str s = V.str "swap" := fun z => hs (decide_eq_true z)
      rw [if_neg hs] at n
      -- two
      refine ⟨_, rfl, a, _, rfl, .inr h, rfl, _, rfl, ?_⟩
      have no2 : xs.length ≠ 1 → decide (V.int (((V.str s :: xs).length : Nat) : Int) = V.int 2) = false := fun l => decide_eq_false fun z => by
        injection z with z
        rw [List.length_cons] at z
        omega
      by_cases l1 : xs.length = 1
      case neg =>
        rw [no2 l1]
        exact iteT (q H .refl)
      cases its with
      | nil => exact absurd l1 (by decide)
      | @cons x d xs ds hx t =>
        cases t with
        | cons _ t2 => exact absurd l1 (by simp only [List.length_cons]; omega)
        | nil =>
          clear no2
          have y2 : decide (V.int (([V.str s, x].length : Nat) : Int) = V.int 2) = true := decide_eq_true rfl
          rw [y2]
          refine iteF ?_
          replace n : (if V.str s = V.str "drop" then d.cho else if V.str s = V.str "lead" ∨ V.str s = V.str "once" then d.chr else decide (V.str s = V.str "cut") && (d.isI && d.cut)) = false := n
          refine ⟨_, rfl, rfl, _, rfl, ite2 (fun h1 => ?_) (fun h1 => ?_)⟩
          · rw [if_pos (of_decide_eq_true h1)] at n
            refine ⟨_, rfl, a, _, 1, _, rfl, rfl, h, at1, x, d, rfl, hx, fun H' k => ?_⟩
            rw [n]; exact q H' k
          rw [if_neg fun z => h1 (decide_eq_true z)] at n
          have chr : (V.str s = V.str "lead" ∨ V.str s = V.str "once") → d.chr = false := fun z => by rw [if_pos z] at n; exact n
          refine ⟨_, rfl, rfl, _, rfl, ?_⟩
          by_cases h2 : V.str s = V.str "lead"
          · rw [decide_eq_true h2]
            refine iteT (iteT ⟨_, rfl, a, _, 1, _, rfl, rfl, h, at1, x, d, rfl, hx, ?_⟩)
            rw [chr (.inl h2)]; exact q H .refl
          rw [decide_eq_false h2]
          refine iteF ⟨_, rfl, rfl, _, rfl, ?_⟩
          by_cases h3 : V.str s = V.str "once"
          · rw [decide_eq_true h3]
            refine iteT ⟨_, rfl, a, _, 1, _, rfl, rfl, h, at1, x, d, rfl, hx, ?_⟩
            rw [chr (.inr h3)]; exact q H .refl
          rw [decide_eq_false h3]
          refine iteF ?_
          rw [if_neg (fun z => z.elim h2 h3)] at n
          refine ⟨_, rfl, rfl, _, rfl, ?_⟩
          cases h4 : decide (V.str s = V.str "cut") with
          | false => exact iteF (q H .refl)
          | true =>
            rw [h4, Bool.true_and] at n
            refine iteT ⟨_, rfl, a, _, 1, _, rfl, rfl, h, at1, x, d, rfl, hx, _, rfl, ?_⟩
            cases h5 : d.isI with
            | false => exact iteF (q H .refl)
            | true =>
              rw [h5, Bool.true_and] at n
              cases hx with
              | num i =>
                refine iteT ⟨_, rfl, a, _, 1, _, rfl, rfl, h, at1, _, _, rfl, rfl, _, rfl, ?_⟩
                replace n : (decide (1 ≤ i) && decide (i ≤ 9)) = false := n
                cases h6 : decide ((1 : Int) ≤ i) with
                | false => exact iteF (q H .refl)
                | true =>
                  rw [h6, Bool.true_and] at n
                  refine iteT ⟨_, _, rfl, rfl, ?_⟩
                  show Q (V.bl (decide (i ≤ 9))) H
                  rw [n]; exact q H .refl
              | txt l h => exact absurd h5 Bool.false_ne_true
              | non => exact absurd h5 Bool.false_ne_true
              | bl b => exact absurd h5 Bool.false_ne_true
              | lst h => exact absurd h5 Bool.false_ne_true
              | tup h => exact absurd h5 Bool.false_ne_true
              | dct h => exact absurd h5 Bool.false_ne_true
end
end Pd

set_option maxHeartbeats 4000000
namespace Pd
open PySem PySem.Spec PyProof.Rows L2
/-- isinstance(e, (c1, c2, ..)), e the exception that the suite holds -/
def rIsET (K : PySem.W.Frag) (D a : Addr) : List V → Hp → VK → Prop := fun xs H Q => ∃ (tp : Addr) (cs : List V) (us : List Value) (b : Bool), xs = [.ref a, .ref tp] ∧ H tp = some (.tup cs) ∧ Paired ClsV cs us ∧ PySem.W.kitAny K (.ref D) us = some b ∧ Q (.bl b) H
theorem call_isET {X : Cx} {a D : Addr} {oe : Obj} {pn : List (Addr × Obj)} (C : ExcC X.K D) (hz : Zc (.ref D) none oe) (hf : ∃ vs, oe.data = .fields vs) : CallR (X.suite a ((a, oe) :: pn)) (.builtin "isinstance") (rIsET X.K D a) := by
  intro pins s σ H xs us Q I r h
  obtain ⟨tp, cs, ws, b, rfl, hT, k, e, q⟩ := h
  obtain ⟨u1, u2, rfl, r1, r2⟩ := vals2 r
  cases (show u1 = Value.ref a from r1)
  cases (show u2 = Value.ref tp from r2)
  obtain ⟨_, its, rv, o, h1, h2, n, h3⟩ := (show ObjOk X.prog X.w H s.heap tp (.tup cs) from I.hok tp _ hT)
  have e3 := ClsV.all k rv
  subst e3
  obtain ⟨oc, od, dt, sl⟩ := o
  simp only at h2 h3
  subst h2 h3
  obtain ⟨hget, _⟩ := I.pin (a, oe) (List.mem_append.mpr (.inl List.mem_cons_self))
  obtain ⟨vs, hv⟩ := hf
  have J : PySem.W.InstAt s.heap a oe D none := by
    obtain ⟨oc, od, oda, osl⟩ := oe
    obtain ⟨z1, z2⟩ := hz
    dsimp only at z1 z2 hv
    subst z1 z2 hv
    exact ⟨hget, rfl, rfl, trivial⟩
  exact PySem.W.kia_tup (PySem.W.handS_kitx_exc C.hg C.hk C.hs C.hd C.ha C.hn C.ht C.hm) I.kIn J h1 e (fun z => nomatch z) fun tk => ⟨.bl b, H, I.kept (t' := tk) fun _ _ z => z, rfl, q⟩
/-- none of some classes -/
theorem kitAny_no {K : PySem.W.Frag} {D : Value} : ∀ {us : List Value}, (∀ u ∈ us, PySem.W.kitOne K D u = some false) → PySem.W.kitAny K D us = some false
  | [], _ => rfl
  | u :: us, h => by
    unfold PySem.W.kitAny
    rw [h u List.mem_cons_self]
    exact kitAny_no fun v hv => h v (List.mem_cons_of_mem _ hv)
/-- o.m(e, ..) of an own class where it may raise, in a try -/
def tMethX (C : Addr) (m : Str) (sp : Sp) (E : L2.St → XK) (ta : TE) (t : TA) : TE := fun σ H Q => ta σ H fun x H1 => ∃ (a dx : Addr) (fs : List (Str × V)), x = .ref a ∧ H1 a = some (.ins C dx fs) ∧ fs.lookup m = none ∧ t σ H1 fun vs H2 => sp (.ref a :: vs) H2 Q (E σ)
theorem pe_methX {X : Cx} {CX : CXT} {k : Nat} {C g : Addr} {fd : FuncData} {ps : List Str} {m : Str} {sp : Sp} {E : L2.St → XK} {o e : Expr} {es : List Expr} {ta : TE} {t : TA} {apos pos : Pos} {pl : Sem Bool} (he : PE X o ta) (c : Cls X.K C) (hm : Meth X.K C m g)
    (F : FnOk X.prog X.w X.K X.mg X.base CX k g fd ps sp) (hr : Room k X.A) (hb : Binds X.K fd ps []) (hx : ∀ σ, PassesAt CX X σ (E σ)) (ha : PA X (e :: es) t) (hst : starEach (e :: es) X.env = (false, eval e X.env) :: starEach es X.env := by rfl)
    (hpl : (backTo pos (starEach es X.env)).any (·.1) = false := by rfl)
    (ht : eval (.Call (.Attribute o m apos) (e :: es) [] pos) X.env = (do let ov ← eval o X.env; standAt apos.atName; let (f, first) ← holding [ov] (getMethod ov m pl); callWith pos f first (backTo pos (starEach (e :: es) X.env)) (backToKw pos (keywordEach [] X.env))) := by rfl) :
    PE X (.Call (.Attribute o m apos) (e :: es) [] pos) (tMethX C m sp E ta t) := by
  constructor
  intro pins s σ H Q I h
  refine PySem.W.methodCall_KW (pl := pl) (thn (he.run pins s σ H _ I h) ?_) ht
  rintro u s1 ⟨x, H1, I1, rx, a, dx, fs, rfl, ea, l, q⟩
  cases (show u = Value.ref a from rx)
  refine getmeth_ok I1 ea c hm l (PySem.W.callWith_K (first := [.ref a]) (h₀ := X.base) I.ok.mod.kin hm.kp (thn (ha.run pos pins s1 σ H1 _ I1 q) ?_) hst hpl)
  rintro us s2 ⟨vs, H2, I2, r, q2⟩
  exact ⟨I2.kIn, run_fnS (us := .ref a :: us) (vs := .ref a :: vs) F hr hb (hx σ) I2 (.cons rfl r) q2⟩
end Pd

set_option maxHeartbeats 4000000
namespace Pd
open PySem PySem.Spec PyProof.Rows L2
/-! ### isinstance of a caught error that has a field -/
theorem excD_at {X : Cx} {a D dd : Addr} {oe : Obj} {pn pins : List (Addr × Obj)} {σ : L2.St} {H : Hp} {s : Shared} {fs : List (Str × V)} (hz : Zc (.ref D) (some dd) oe) (hf : ∃ vs, oe.data = .fields vs) (I : Inv (X.suite a ((a, oe) :: pn)) pins σ H s) (hd : H dd = some (.xd fs)) :
    ∃ od, PySem.W.InstAt s.heap a oe D (some od) := by
  obtain ⟨ha, _⟩ := I.pin (a, oe) (List.mem_append_left _ List.mem_cons_self)
  obtain ⟨vs, hv⟩ := hf
  obtain ⟨mA, hns, hr⟩ := (show ObjOk X.prog X.w H s.heap dd (.xd fs) from I.hok dd _ hd)
  obtain ⟨od, ho, hl⟩ := lookIn_ns hns
  exact ⟨od, ha, hz.1, by unfold PySem.W.notCls; rw [hv] <;> rfl, by rw [hz.2]; exact ho⟩
/-- isinstance(e, c) -/
def rIsD (K : PySem.W.Frag) (D a dd : Addr) : List V → Hp → VK → Prop := fun xs H Q => ∃ (c : V) (cv : Value) (b : Bool) (fs : List (Str × V)), xs = [.ref a, c] ∧ H dd = some (.xd fs) ∧ (∀ u, RelV c u → u = cv) ∧ PySem.W.kitOne K (.ref D) cv = some b ∧ Q (.bl b) H
theorem call_isD {X : Cx} {a D dd : Addr} {oe : Obj} {pn : List (Addr × Obj)} (C : ExcC X.K D) (hz : Zc (.ref D) (some dd) oe) (hf : ∃ vs, oe.data = .fields vs) : CallR (X.suite a ((a, oe) :: pn)) (.builtin "isinstance") (rIsD X.K D a dd) := by
  intro pins s σ H xs us Q I r h
  obtain ⟨c, cv, b, fs, rfl, hd, hcv, e, q⟩ := h
  obtain ⟨u1, u2, rfl, r1, r2⟩ := vals2 r
  cases (show u1 = Value.ref a from r1)
  obtain rfl := hcv _ r2
  obtain ⟨od, J⟩ := excD_at hz hf I hd
  have cl : (PySem.W.clsIn X.K D).isSome = true := by
    obtain ⟨cd, hc, _⟩ := PySem.W.any_some C.hd
    rw [hc]; rfl
  exact PySem.W.kia_one (PySem.W.kitx_exc cl C.hg C.hk C.hs C.ha C.hn C.ht C.hm) I.kIn J e (fun z => nomatch z) fun tk => ⟨.bl b, H, I.kept (t' := tk) fun _ _ z => z, rfl, q⟩
/-- isinstance(e, (c1, c2, ..)) -/
def rIsDT (K : PySem.W.Frag) (D a dd : Addr) : List V → Hp → VK → Prop := fun xs H Q => ∃ (tp : Addr) (cs : List V) (us : List Value) (b : Bool) (fs : List (Str × V)), xs = [.ref a, .ref tp] ∧ H dd = some (.xd fs) ∧ H tp = some (.tup cs) ∧ Paired ClsV cs us ∧ PySem.W.kitAny K (.ref D) us = some b ∧ Q (.bl b) H
theorem call_isDT {X : Cx} {a D dd : Addr} {oe : Obj} {pn : List (Addr × Obj)} (C : ExcC X.K D) (hz : Zc (.ref D) (some dd) oe) (hf : ∃ vs, oe.data = .fields vs) : CallR (X.suite a ((a, oe) :: pn)) (.builtin "isinstance") (rIsDT X.K D a dd) := by
  intro pins s σ H xs us Q I r h
  obtain ⟨tp, cs, ws, b, fs, rfl, hd, hT, k, e, q⟩ := h
  obtain ⟨u1, u2, rfl, r1, r2⟩ := vals2 r
  cases (show u1 = Value.ref a from r1)
  cases (show u2 = Value.ref tp from r2)
  obtain ⟨_, its, rv, o, h1, h2, n, h3⟩ := (show ObjOk X.prog X.w H s.heap tp (.tup cs) from I.hok tp _ hT)
  have e3 := ClsV.all k rv
  subst e3
  obtain ⟨oc, od', dt, sl⟩ := o
  simp only at h2 h3
  subst h2 h3
  obtain ⟨od, J⟩ := excD_at hz hf I hd
  have cl : (PySem.W.clsIn X.K D).isSome = true := by
    obtain ⟨cd, hc, _⟩ := PySem.W.any_some C.hd
    rw [hc]; rfl
  exact PySem.W.kia_tup (PySem.W.kitx_exc cl C.hg C.hk C.hs C.ha C.hn C.ht C.hm) I.kIn J h1 e (fun z => nomatch z) fun tk => ⟨.bl b, H, I.kept (t' := tk) fun _ _ z => z, rfl, q⟩
/-! ### f(k = v, ..) where it may raise, in a try -/
def tCallKX (m : Nat) (sp : Sp) (gV : List V → List V → List V) (E : L2.St → XK) (tk : TA) : TE := fun σ H Q => tk σ H fun zs H2 => zs.length = m ∧ sp (gV [] zs) H2 Q (E σ)
theorem pe_callKX {X : Cx} {CX : CXT} {k : Nat} {f : Addr} {fd : FuncData} {ps ks : List Str} {sp : Sp} {E : L2.St → XK} {x : Str} {p pos : Pos} {kws : List Keyword} {tk : TA} {g : List Value → List Value → List Value} {gV : List V → List V → List V}
    (F : FnOk X.prog X.w X.K X.mg X.base CX k f fd ps sp) (hr : Room k X.A) (hg : Gl X x) (hm : X.mg x = some (.ref f)) (hk : PySem.W.keepIn X.K (.ref f) = true) (hb : KBn X.K fd ps 0 ks g gV) (hx : ∀ σ, PassesAt CX X σ (E σ)) (hkw : PK X kws tk)
    (hall : (backToKw pos (keywordEach kws X.env)).all (·.1.isSome) = true := by rfl) (hks : (backToKw pos (keywordEach kws X.env)).filterMap (·.1) = ks := by rfl) (hdb : (x == ("__debug__" : Str)) = false := by decide)
    (hpl : ((backTo pos (starEach [] X.env)).any (·.1) || (backToKw pos (keywordEach kws X.env)).any (·.1.isNone)) = false := by rfl) :
    PE X (.Call (.Name x p) [] kws pos) (tCallKX ks.length sp gV E tk) := by
  constructor
  intro pins s σ H Q I h
  refine wpAny_Call_Name_kw (ld_glob I hg hm ?_ hdb)
  refine PySem.W.callWith_KW0 (h₀ := X.base) I.ok.mod.kin hk hall ?_ hpl
  refine thn (hkw.run pos pins s σ H _ I h) fun ws s2 ⟨zs, H2, I2, rz, l2, q2⟩ => ⟨I2.kIn, ?_⟩
  rw [hks]
  have r2 := hb.rel (.nil : Vals [] []) rz
  refine wpAny_call (codeAny_mono (F.run X.A X.stack s2 H2 ⟨[], ks.zip ws⟩ (g [] ws) (gV [] zs) Q (E σ) hr I2.env0 (hb.to s2 [] ws I2.kIn rfl (rz.length.symm.trans l2)) r2 q2) fun r s' hq => ?_)
  cases r with
  | error e => exact hx σ pins H2 s2 e s' I2 hq
  | ok fl =>
    cases fl with
    | ret u => exact I2.after hq
    | next => exact False.elim hq
    | brk => exact False.elim hq
    | cont => exact False.elim hq
/-! ### x != x: a list and its copy, one tuple, one empty dict, plain values -/
/-- an item that is seen to be equal to itself -/
def selfB : V → Bool
  | .non => true | .bl _ => true | .int _ => true | .str _ => true | .ref _ => true
  | _ => false
theorem eq_self {A : Around} {s : Shared} {x : V} {u v : Value} (h : selfB x = true) (r1 : RelV x u) (r2 : RelV x v) : SeqAt.EqAt A s u v true := by
  cases x with
  | non => cases r1; cases r2; exact SeqAt.EqAt.same _
  | bl b => cases r1; cases r2; exact SeqAt.EqAt.same _
  | int i =>
    obtain ⟨t, rfl⟩ := r1
    obtain ⟨t', rfl⟩ := r2
    have z := SeqAt.EqAt.int_int (A := A) (s := s) i t i t'
    rwa [beq_self_eq_true] at z
  | str y =>
    obtain ⟨t, rfl⟩ := r1
    obtain ⟨t', rfl⟩ := r2
    have z := SeqAt.EqAt.str_str (A := A) (s := s) y t y t'
    rwa [beq_self_eq_true] at z
  | ref a => cases (show u = Value.ref a from r1); cases (show v = Value.ref a from r2); exact SeqAt.EqAt.same _
  | _ => exact absurd (show false = true from h) Bool.false_ne_true
theorem sub_dd : isSubtype (.type "dict") (.type "dict") = pure true := by rw [isSubtype_type]; kernel_rfl
theorem dictNe_self {a : Addr} {o : Obj} {ep : Nat} : Meets (Builtin.«dict.__ne__» ⟨[.ref a, .ref a], []⟩) (fun _ R s => (s.heap.get? a = some o ∧ o.cls = .type "dict" ∧ o.data = .dict #[] ep ∧ (a == sysModules) = false) ∧ R (.ok (.ret (.bool false))) s) :=
  .of_wp fun prog w A R s h => by
    obtain ⟨hp, g, d, tk, os⟩ := s
    obtain ⟨⟨ho, hc, hd, hs⟩, h⟩ := h
    obtain ⟨oc, od, dt, sl⟩ := o
    simp only at hc hd
    subst hc hd
    have hT : Shared.TypeIs ⟨hp, g, d, tk, os⟩ (.ref a) "dict" := ⟨_, ho, rfl⟩
    have sb := sub_dd
    wp_walk using wpAny_dictEntries ho rfl, TI.forIn_rng _ (fun rest b s' => rest = [] ∧ b = (none, ()) ∧ s' = ⟨hp, g, d, tk, os⟩) _
    case turn =>
      rintro x rest b s' ⟨hr, _⟩
      cases hr
    case fin =>
      rintro b s' ⟨_, rfl, rfl⟩
      wp_walk
      exact ⟨_, rfl, h⟩
    case h => exact ⟨rfl, rfl, rfl⟩
/-- x != y is False -/
def rNeSelf (K : PySem.W.Frag) : R2 := fun x y H Q => ((∃ (a b : Addr) (xs : List V), x = .ref a ∧ y = .ref b ∧ SqL K H a xs ∧ SqL K H b xs ∧ xs.all selfB = true) ∨ (∃ (a : Addr) (xs : List V), x = .ref a ∧ y = .ref a ∧ SqT K H a xs) ∨ (∃ a : Addr, x = .ref a ∧ y = .ref a ∧ H a = some (.dK [])) ∨
  (y = x ∧ (x = .non ∨ (∃ b, x = .bl b) ∨ (∃ i, x = .int i) ∨ ∃ z, x = .str z))) ∧ Q (.bl false) H
theorem op_neSelf {X : Cx} (hu : X.A.units + 64 < cLine) : OpR X (compareOp .NotEq) (rNeSelf X.K) := by
  intro pins s σ H x y v u Q I rx ry h
  obtain ⟨h, q⟩ := h
  have hu' : X.A.units < cLine := by omega
  have fin : ∀ {b : Bool}, b = false → EP X pins σ Q (.bool b) s := fun e => by subst e; exact ⟨.bl false, H, I, rfl, q⟩
  rcases h with ⟨a, b, xs, rfl, rfl, ha, hb, hs⟩ | ⟨a, xs, rfl, rfl, ha⟩ | ⟨a, rfl, rfl, ha⟩ | ⟨rfl, h⟩
  · cases (show v = Value.ref a from rx)
    cases (show u = Value.ref b from ry)
    obtain ⟨its, rv, pl, _⟩ := I.list ha
    obtain ⟨its2, rv2, pl2, _⟩ := I.list hb
    have l1 := rv.length
    have l2 := rv2.length
    refine SeqAt.RcNeAt.lists (e := fun _ => true) pl.isList pl2.isList (by simp only [List.size_toArray]; omega) hu' (fun j h1 h2 => ?_) X.prog X.w X.xe _ (fin (by simp))
    have hj : j < xs.length := by simp only [List.size_toArray] at h1; omega
    obtain ⟨u1, e1, r1⟩ := rv.get (List.getElem?_eq_getElem hj)
    obtain ⟨u2, e2, r2⟩ := rv2.get (List.getElem?_eq_getElem hj)
    have f1 : its.toArray[j] = u1 := by
      have z : its[j]? = some its.toArray[j] := by simp
      rw [e1] at z; exact (Option.some.inj z).symm
    have f2 : its2.toArray[j] = u2 := by
      have z : its2[j]? = some its2.toArray[j] := by simp
      rw [e2] at z; exact (Option.some.inj z).symm
    rw [f1, f2]
    exact eq_self (List.all_eq_true.mp hs _ (List.getElem_mem hj)) r1 r2
  · cases (show v = Value.ref a from rx)
    cases (show u = Value.ref a from ry)
    obtain ⟨its, rv, pl, _⟩ := I.tuple ha
    exact SeqAt.RcNeAt.tuples (e := fun _ => true) pl pl hu' (fun j h1 h2 => SeqAt.EqAt.same _) X.prog X.w X.xe _ (fin (by simp))
  · cases (show v = Value.ref a from rx)
    cases (show u = Value.ref a from ry)
    obtain ⟨_, hs, vs, kv, o, es, ep, ho, hx, hd, _, pr, _⟩ := (show ObjOk X.prog X.w H s.heap a (.dK []) from I.hok a _ ha)
    cases kv
    have es0 : es = #[] := by
      have z := pr.length
      simp at z
      exact z
    subst es0
    exact richCompare_meets_room (op := .NotEq) ⟨o, ho, hx.1⟩ ⟨o, ho, hx.1⟩ PySem.F.slot_dict_ne PySem.F.entry_dict_ne (PySem.F.args_dict_ne_2 _ _) (dictNe_self (o := o) (ep := ep)) ⟨⟨ho, hx.1, hd, hs⟩, (fun z => nomatch z), fin rfl⟩ hu'
  · rcases h with rfl | ⟨b, rfl⟩ | ⟨i, rfl⟩ | ⟨z, rfl⟩
    · cases rx; cases ry
      exact SeqAt.RcNeAt.none_none X.prog X.w X.xe _ (fin rfl)
    · cases rx; cases ry
      exact SeqAt.RcNeAt.bool_bool b b X.prog X.w X.xe _ (fin (by simp))
    · obtain ⟨t, rfl⟩ := rx
      obtain ⟨t', rfl⟩ := ry
      exact SeqAt.RcNeAt.int_int i t i t' X.prog X.w X.xe _ (fin (by simp))
    · obtain ⟨t, rfl⟩ := rx
      obtain ⟨t', rfl⟩ := ry
      exact SeqAt.RcNeAt.str_str z t z t' X.prog X.w X.xe _ (fin (by simp))
end Pd

set_option maxHeartbeats 4000000
namespace Pd
open PySem PySem.Spec PyProof.Rows L2
/-! ### C(e, ..) where it may raise, in a try -/
def tMakeS (C : Addr) (sp : Sp) (dvs : List V) (E : L2.St → XK) (t : TA) : TE := fun σ H Q => t σ H fun vs H1 => ∀ x dx, H1 x = none → H1 dx = none → dx ≠ x → sp (.ref x :: (vs ++ dvs)) (upd (upd H1 dx (.own x)) x (.ins C dx [])) (fun v H2 => v = .non ∧ Q (.ref x) H2) (E σ)
section
variable {X : Cx} {CX : CXT} {k : Nat} {f C : Addr} {fd : FuncData} {ps : List Str} {sp : Sp} {E : L2.St → XK} {x : Str} {p pos : Pos} {e : Expr} {es : List Expr} {t : TA} {dvs : List V} {ds : List Value}
theorem pe_makeS (M : Mk X.K C f) (F : FnOk X.prog X.w X.K X.mg X.base CX k f fd ps sp) (hr : Room (k + 1) X.A) (hg : Gl X x) (hm : X.mg x = some (.ref C)) (hb : Binds X.K fd ps ds) (hd : Vals dvs ds) (hx : ∀ σ, PassesAt CX X σ (E σ))
    (ha : PA X (e :: es) t) (hdb : (x == ("__debug__" : Str)) = false := by decide) (he : starEach (e :: es) X.env = (false, eval e X.env) :: starEach es X.env := by rfl) (hpl : (backTo pos (starEach es X.env)).any (·.1) = false := by rfl) :
    PE X (.Call (.Name x p) (e :: es) [] pos) (tMakeS C sp dvs E t) := by
  refine ⟨fun pins s σ H Q I h => ?_⟩
  refine wpAny_Call_Name_kw (ld_glob I hg hm ?_ hdb)
  refine PySem.W.callWith_K (h₀ := X.base) I.ok.mod.kin M.kp (thn (ha.run pos pins s σ H _ I h) fun us s1 ⟨vs, H1, I1, r, q⟩ => ⟨I1.kIn, ?_⟩) he hpl
  show wpAny (model X.prog X.w) X.A (call (.ref C) us) (EP X pins σ Q) X.xe s1
  have hq := q (s1.heap.objs.size + 1) s1.heap.objs.size (I1.hok.fresh (Nat.le_succ _)) (I1.hok.fresh (Nat.le_refl _)) (Nat.ne_of_lt (Nat.lt_succ_self _))
  have I2 := Inv.made (C := C) I1
  have r2 : Vals (V.ref (s1.heap.objs.size + 1) :: (vs ++ dvs)) (Value.ref (s1.heap.objs.size + 1) :: (us ++ ds)) := .cons rfl (r.append hd)
  have hl : (Value.ref (s1.heap.objs.size + 1) :: us ++ ds).length = ps.length := by
    have e := r2.length
    rw [F.len _ _ _ _ hq] at e
    exact e.symm
  refine wpAny_call (make_map (f := f) I1.kIn M.makes M.init (beq_iff_eq.mp M.fn) (codeAny_mono (F.run _ X.stack _ _ ⟨Value.ref (s1.heap.objs.size + 1) :: us, []⟩ (Value.ref (s1.heap.objs.size + 1) :: (us ++ ds)) _ _ (E σ) (hr.make C us [])
    (I2.env0.make C us []) (hb _ (Value.ref (s1.heap.objs.size + 1) :: us) I2.kIn hl) r2 hq) fun r s' hq' => ?_))
  cases r with
  | error e => exact hx σ pins _ _ e s' I2 hq'
  | ok fl =>
    cases fl with
    | ret u =>
      obtain ⟨v, H', I3, rv, ev, q3⟩ := I2.after hq'
      subst ev
      exact ⟨rv, ⟨V.ref (s1.heap.objs.size + 1), H', I3, rfl, q3⟩⟩
    | next => exact False.elim hq'
    | brk => exact False.elim hq'
    | cont => exact False.elim hq'
end
end Pd

set_option maxHeartbeats 4000000
namespace Pd
open PySem PySem.Spec PyProof.Rows L2 SX PySem.OEX
/-! ### Folding(..) of what is no row of steps -/
theorem ni_ask {K : PySem.W.Frag} {C : Addr} {H : Hp} {y : V} {Q : XK} (q : ∀ d H', H d = none → Ext H H' → H' d = some (.xd [("index", y)]) → Q (.ref C) (some d) H') :
    [y].length ≤ 1000 ∧ ∀ a, H a = none → spNsInit K C (.ref a :: ([y] ++ [])) (upd H a (exo a C none)) (fun v H2 => v = .non ∧ ∃ (d : Addr) (fs : List (Str × V)), H2 a = some (exo a C (some d)) ∧ H2 d = some (exd d fs) ∧ H d = none ∧ Q (.ref C) (some d) (upd (del H2 a) d (.xd fs))) (fun _ _ _ => False) := by
  refine ⟨by show 1 ≤ 1000; decide, fun a ha => ⟨a, y, rfl, upd_same, fun d hd n => ?_⟩⟩
  have hd' : H d = none := by rw [upd_ne n] at hd; exact hd
  refine ⟨rfl, d, [("index", y)], upd_same, by rw [upd_ne n]; exact upd_same, hd', q d _ hd' (fun b o e => ?_) upd_same⟩
  have nb : b ≠ d := ne_of_none e hd'
  have na : b ≠ a := ne_of_none e ha
  rw [upd_ne nb, del_ne na, upd_ne na, upd_ne nb, upd_ne na]
  exact e
/-- the class NoStep as it is raised -/
structure NsR (P : Program) (w : World) (K : PySem.W.Frag) (mg : Str → Option Value) (base : Heap) (C : Addr) : Prop where
  o : OexC K C
  init : ∃ (g : Addr) (fd : FuncData), PySem.W.findIn K (.ref C) "__init__" = some (some (.ref g)) ∧ PySem.W.typeIn K (.ref g) = some (.type "function") ∧ FnOk P w K mg base CX0 1 g fd ["self", "index"] (spNsInit K C) ∧ Binds K fd ["self", "index"] []
  g : mg "NoStep" = some (.ref C)
/-- no row of steps: the index of the first wrong item -/
inductive BadR (K : PySem.W.Frag) (H : Hp) : V → Nat → Prop where
  | kind {x : V} {t : String} (h : TyX K H x (.type t)) (n : kitB t "tuple" = some false) : BadR K H x 0
  | row {a : Addr} {ps : List Addr} {sts : List Stp} {v : V} {rest : List V} (h : SqT K H a (ps.map V.ref ++ v :: rest)) (al : Al H ps sts) (l : ps.length ≤ 6) (b : ps.length = 6 ∨ ∀ H', Ext H H' → NoStp K H' v) : BadR K H (.ref a) ps.length
def spStepO (K : PySem.W.Frag) : Sp := fun vs H Q E => spIsStep vs H Q E ∨ spStepN K vs H Q E
def spFInitW (K : PySem.W.Frag) (CN : Addr) : Sp := fun vs H _ E => ∃ (o : Addr) (x : V) (i : Nat), vs = [.ref o, x] ∧ BadR K H x i ∧ ∀ d H', H d = none → Ext H H' → H' d = some (.xd [("index", .int (i : Nat))]) → E (.ref CN) (some d) H'
section
variable {P : Program} {w : World} {K : PySem.W.Frag} {mg : Str → Option Value} {base : Heap}
theorem ok_stepO {f : Addr} {fd : FuncData} (F : Fun K "is_step" "is_step" sIsStep f fd) (T : Nms mg) (C : Cst mg) (A1 : Cl P w K mg base 1 "is_character" spIsChar) (A2 : Cl P w K mg base 2 "_is_choice" spIsChoice) (A3 : Cl P w K mg base 1 "is_integer" spIsInt) (G : Cl P w K mg base 1 "is_character" (spCharE K)) (G2 : Cl P w K mg base 2 "_is_choice" (spChoiceE K)) (G3 : Cl P w K mg base 1 "is_integer" (spIntE K)) : FnOk P w K mg base CX0 3 f fd ["value"] (spStepO K) :=
  fnOk_or (ok_isStep F T C A1 A2 A3) (ok_stepN F T C G G2 G3) fun _ _ _ _ h => h
theorem ok_finitW {f CN : Addr} {fd : FuncData} {dvs : List V} (F : FunD K "__init__" "Folding.__init__" (defArgs sFoldingInit) (defBody sFoldingInit) (defScope sFoldingInit) dvs [] f fd) (T : Nms mg) (C : Cst mg) (N : NsR P w K mg base CN) (G : Cl P w K mg base 3 "is_step" (spStepO K)) :
    FnOk P w K mg base (L2.CX P w) 4 f fd ["self", "steps"] (spFInitW K CN) := by
  refine F.ok scFoldingInit (fun vs H Q E h => ?_) (fun cdv A outer s H vs Q E hr h => ?_)
  · obtain ⟨o, x, i, rfl, _⟩ := h
    rfl
  · obtain ⟨o, x, i0, rfl, hx, q⟩ := h
    have nd := scFoldingInit.nd
    obtain ⟨t6, hm⟩ := C.steps
    obtain ⟨gi, fdi, iC, tI, FI, bI⟩ := N.init
    refine ⟨_, pss_cons (ps_if (pt_not (pt_val (pe_callB call_isi (by rfl) T.isi (by decide +kernel) (pa_cons (pv 1) (pa_cons (pe_bltn (v := .ty "tuple") (by rfl) T.tuple (by decide +kernel) rfl) pa_nil))))) (pss_one (ps_raise rfl (takes_of rfl rfl rfl rfl) (pmk_oex N.o iC tI FI (hr.mono (by decide)) bI .nil pass0 rfl N.g (pa_cons pe_int pa_nil)))) pss_nil)
      (pss_cons (ps_for (passes_of rfl) rfl (pi_enumT (by rfl) T.enum (pa_cons (pv 1) pa_nil)) (pg_tup (by rfl) (pgs_cons (pg_name (i := 2) nd rfl (Or.inl rfl)) (pgs_cons (pg_name (i := 3) nd rfl (Or.inl rfl)) pgs_nil)))
        (pss_one (ps_if (PW.pt (pw_or (pt_cmpR op_ge (pv 2) (pe_glob (v := .int 6) rfl hm ⟨_, rfl⟩) (nomark _)) (pw_or1 (pt_not (pt_val (pe_cl G hr (by decide) rfl (pa_cons (pv 3) pa_nil))))))) (pss_one (ps_raise rfl (takes_of rfl rfl rfl rfl) (pmk_oex N.o iC tI FI (hr.mono (by decide)) bI .nil pass0 rfl N.g (pa_cons (pv 2) pa_nil)))) pss_nil)))
      pss_never), ?_⟩
    cases hx with
    | @kind x t ty kb => exact ⟨_, rfl, _, _, _, _, false, rfl, .ty "tuple", ty, kit_ty kb, false, rfl, iteT (ni_ask fun d H' hd k e => q d H' hd k e)⟩
    | @row a ps sts v rest h al l b =>
      refine ⟨_, rfl, _, _, _, _, true, rfl, .ty "tuple", sqT_ty h, kit_ty (by decide +kernel), true, rfl, iteF ?_⟩
      refine ⟨_, rfl, a, _, rfl, h, for_it (walk_enumT (xs := ps.map V.ref ++ v :: rest)) (fun i σ H' => ∃ u w, σ = [some (.ref o), some (.ref a), u, w] ∧ Ext H H' ∧ i ≤ ps.length) ⟨none, none, rfl, .refl, Nat.zero_le _⟩ (fun i σ H' _ p => by
        obtain ⟨u, w, _, k, _⟩ := p
        exact sqT_keep h fun o e => k a o e) ?_ ?_⟩
      · rintro i x σ H2 H3 hi ⟨u, w', rfl, k2, hle⟩ ⟨Ta, x1, y1, rfl, hT, rfl, e1, e2⟩
        obtain rfl := Option.some.inj e1
        replace e2 : (ps.map V.ref ++ v :: rest)[i]? = some y1 := e2
        have k3 : Ext H (L2.upd H2 Ta (.tup [V.int (i : Nat), y1])) := k2.new' hT
        refine ⟨Ta, _, rfl, SqT.of upd_same, rfl, _, _, rfl, _, _, rfl, rfl, ?_⟩
        refine ⟨_, rfl, _, _, rfl, rfl, _, rfl, ?_⟩
        by_cases hlt : i < ps.length
        · rw [List.getElem?_append_left (by rw [List.length_map]; exact hlt), List.getElem?_map] at e2
          obtain ⟨p, hp, rfl⟩ := Option.map_eq_some_iff.mp e2
          obtain ⟨st, es, hst, ok⟩ := al.get hp
          rw [decide_eq_false (show ¬ ((i : Nat) : Int) ≥ 6 by omega)]
          exact iteF ⟨_, rfl, .inl ⟨p, st, rfl, hst.ext k3, ok, fun H4 k4 => ⟨true, rfl, iteF ⟨some (.int (i : Nat)), some (.ref p), rfl, k3.trans k4, hlt⟩⟩⟩⟩
        · obtain rfl : i = ps.length := by omega
          rw [List.getElem?_append_right (by rw [List.length_map]; exact Nat.le_refl _), List.length_map, Nat.sub_self] at e2
          cases e2
          have back : ∀ {H' : Hp} {c : Addr}, Ext H H' → H' c = none → H c = none := fun {H' c} k e => by
            cases z : H c with
            | none => rfl
            | some o => rw [k c o z] at e; cases e
          rcases b with b | b
          · rw [decide_eq_true (show ((ps.length : Nat) : Int) ≥ 6 by omega)]
            exact iteT (iteT ⟨_, rfl, ni_ask fun d H' hd k e => q d H' (back k3 hd) (k3.trans k) e⟩)
          · by_cases h6 : ps.length = 6
            · rw [decide_eq_true (show ((ps.length : Nat) : Int) ≥ 6 by omega)]
              exact iteT (iteT ⟨_, rfl, ni_ask fun d H' hd k e => q d H' (back k3 hd) (k3.trans k) e⟩)
            · rw [decide_eq_false (show ¬ ((ps.length : Nat) : Int) ≥ 6 by omega)]
              exact iteF ⟨_, rfl, .inr ⟨v, rfl, b _ k3, fun H4 k4 => ⟨false, rfl, iteT ⟨_, rfl, ni_ask fun d H' hd k e => q d H' (back (k3.trans k4) hd) ((k3.trans k4).trans k) e⟩⟩⟩⟩
      · rintro σ H2 ⟨u, w', rfl, k2, hle⟩
        rw [List.length_append, List.length_map] at hle
        exact absurd hle (by show ¬ _ + (_ + 1) ≤ _; omega)
end
end Pd

set_option maxHeartbeats 4000000
namespace Pd
open PySem PySem.Spec PyProof.Rows L2 SX
/-! ### what the words of a part write -/
def lowW : List Nat := [108, 111, 119, 101, 114]
def swapW : List Nat := [115, 119, 97, 112]
def dropW : List Nat := [100, 114, 111, 112]
def leadW : List Nat := [108, 101, 97, 100]
def onceW : List Nat := [111, 110, 99, 101]
def cutW : List Nat := [99, 117, 116]
theorem words_S : ("lower" : Str) = S lowW ∧ ("swap" : Str) = S swapW ∧ ("drop" : Str) = S dropW ∧ ("lead" : Str) = S leadW ∧ ("once" : Str) = S onceW ∧ ("cut" : Str) = S cutW := by decide +kernel
def oneC (k : Nat → Stp) : List Nat → Option Stp
  | [c] => if c ∈ CH then some (k c) else none
  | _ => none
def twoC : List (List Nat) → Option Stp
  | [[a], [b]] => if a ∈ CH ∧ b ∈ CH then some (.swap a b) else none
  | _ => none
def cutC : List Nat → Option Stp
  | [d] => if 49 ≤ d ∧ d ≤ 57 then some (.cut (d - 48)) else none
  | _ => none
def dropC (v : List Nat) : Option Stp := if choB v = true then some (.drop v) else none
def rd (w : List Nat) (vs : List (List Nat)) : Option Stp :=
  if w = lowW then (if vs = [] then some .low else none) else
  if w = swapW then twoC vs else
  match vs with
  | [v] => if w = dropW then dropC v else if w = leadW then oneC .lead v else if w = onceW then oneC .once v else if w = cutW then cutC v else none
  | _ => none
/-- the number that one digit writes -/
def numD : List Nat → Ds
  | [d] => if 48 ≤ d ∧ d ≤ 57 then .num ((d : Int) - 48) else .txt [d]
  | v => .txt v
def numV : List Nat → V
  | [d] => if 48 ≤ d ∧ d ≤ 57 then .int ((d : Int) - 48) else .str (S [d])
  | v => .str (S v)
def valD (w v : List Nat) : Ds := if w = cutW then numD v else .txt v
def valV' (w v : List Nat) : V := if w = cutW then numV v else .str (S v)
theorem num_it {K : PySem.W.Frag} {H : Hp} {v : List Nat} (h : v.length ≤ 1000) : It K H (numV v) (numD v) := by
  match v, h with
  | [], h => exact .txt _ h
  | [d], h =>
    by_cases q : 48 ≤ d ∧ d ≤ 57
    · show It K H (if 48 ≤ d ∧ d ≤ 57 then .int ((d : Int) - 48) else .str (S [d])) (if 48 ≤ d ∧ d ≤ 57 then .num ((d : Int) - 48) else .txt [d])
      rw [if_pos q, if_pos q]; exact .num _
    · show It K H (if 48 ≤ d ∧ d ≤ 57 then .int ((d : Int) - 48) else .str (S [d])) (if 48 ≤ d ∧ d ≤ 57 then .num ((d : Int) - 48) else .txt [d])
      rw [if_neg q, if_neg q]; exact .txt _ h
  | _ :: _ :: _, h => exact .txt _ h
theorem val_it {K : PySem.W.Frag} {H : Hp} {w v : List Nat} (h : v.length ≤ 1000) : It K H (valV' w v) (valD w v) := by
  unfold valV' valD
  by_cases e : w = cutW
  · rw [if_pos e, if_pos e]; exact num_it h
  · rw [if_neg e, if_neg e]; exact .txt _ h
theorem vals_its {K : PySem.W.Frag} {H : Hp} {w : List Nat} : ∀ {vs : List (List Nat)}, (∀ v ∈ vs, v.length ≤ 1000) → Its K H (vs.map (valV' w)) (vs.map (valD w))
  | [], _ => .nil
  | v :: vs, h => .cons (val_it (h v List.mem_cons_self)) (vals_its fun u hu => h u (List.mem_cons_of_mem _ hu))
theorem str_ne {a b : List Nat} (h : a ≠ b) : V.str (S a) ≠ V.str (S b) := fun e => h (of_decide_eq_true (by rw [← dec_S]; exact decide_eq_true e))
theorem isChr_of {v : List Nat} : isChr v = true ↔ ∃ c ∈ CH, v = [c] := by
  match v with
  | [] => exact ⟨(fun h => nomatch h), (fun ⟨c, _, e⟩ => nomatch e)⟩
  | [c] => exact ⟨fun h => ⟨c, of_decide_eq_true h, rfl⟩, fun ⟨d, hd, e⟩ => by cases e; exact decide_eq_true hd⟩
  | _ :: _ :: _ => exact ⟨(fun h => nomatch h), (fun ⟨c, _, e⟩ => nomatch e)⟩
theorem oneC_no {k : Nat → Stp} {v : List Nat} (h : oneC k v = none) : isChr v = false := by
  cases q : isChr v with
  | false => rfl
  | true =>
    obtain ⟨c, hc, rfl⟩ := isChr_of.mp q
    replace h : (if c ∈ CH then some (k c) else none) = none := h
    rw [if_pos hc] at h
    cases h
theorem oneC_yes {k : Nat → Stp} {v : List Nat} {st : Stp} (h : oneC k v = some st) : ∃ c ∈ CH, v = [c] ∧ st = k c := by
  match v, h with
  | [c], h =>
    replace h : (if c ∈ CH then some (k c) else none) = some st := h
    by_cases q : c ∈ CH
    · rw [if_pos q] at h; cases h; exact ⟨c, q, rfl, rfl⟩
    · rw [if_neg q] at h; cases h
theorem cutD_no {v : List Nat} (h : cutC v = none) : ((numD v).isI && (numD v).cut) = false := by
  match v, h with
  | [], _ => rfl
  | [d], h =>
    replace h : (if 49 ≤ d ∧ d ≤ 57 then some (Stp.cut (d - 48)) else none) = none := h
    by_cases q : 49 ≤ d ∧ d ≤ 57
    · rw [if_pos q] at h; cases h
    · show (Ds.isI (if 48 ≤ d ∧ d ≤ 57 then .num ((d : Int) - 48) else .txt [d]) && Ds.cut (if 48 ≤ d ∧ d ≤ 57 then .num ((d : Int) - 48) else .txt [d])) = false
      by_cases q2 : 48 ≤ d ∧ d ≤ 57
      · rw [if_pos q2]
        show (true && (decide (1 ≤ ((d : Int) - 48)) && decide (((d : Int) - 48) ≤ 9))) = false
        rw [decide_eq_false (show ¬ (1 : Int) ≤ (d : Int) - 48 by omega)]; rfl
      · rw [if_neg q2]; rfl
  | _ :: _ :: _, _ => rfl
theorem cutC_yes {v : List Nat} {st : Stp} (h : cutC v = some st) : ∃ d, 49 ≤ d ∧ d ≤ 57 ∧ v = [d] ∧ st = .cut (d - 48) := by
  match v, h with
  | [d], h =>
    replace h : (if 49 ≤ d ∧ d ≤ 57 then some (Stp.cut (d - 48)) else none) = some st := h
    by_cases q : 49 ≤ d ∧ d ≤ 57
    · rw [if_pos q] at h; cases h; exact ⟨d, q.1, q.2, rfl, rfl⟩
    · rw [if_neg q] at h; cases h
theorem twoC_yes {vs : List (List Nat)} {st : Stp} (h : twoC vs = some st) : ∃ a ∈ CH, ∃ b ∈ CH, vs = [[a], [b]] ∧ st = .swap a b := by
  unfold twoC at h
  split at h
  · split at h
    · rename_i a b q
      cases h; exact ⟨a, q.1, b, q.2, rfl, rfl⟩
    · cases h
  · cases h
theorem twoC_no {a b : List Nat} (h : twoC [a, b] = none) : (isChr a && isChr b) = false := by
  cases q : isChr a with
  | false => rfl
  | true =>
    cases q2 : isChr b with
    | false => rfl
    | true =>
      obtain ⟨c, hc, rfl⟩ := isChr_of.mp q
      obtain ⟨d, hd, rfl⟩ := isChr_of.mp q2
      unfold twoC at h
      simp [hc, hd] at h
theorem choB_ok {v : List Nat} (h : choB v = true) : Stp.ok (.drop v) := by
  unfold choB at h
  rw [Bool.and_eq_true, Bool.and_eq_true, Bool.and_eq_true] at h
  obtain ⟨h1, h2, h3, h4⟩ := h
  have e1 := of_decide_eq_true h1
  have e2 := of_decide_eq_true h2
  have e3 := of_decide_eq_true h3
  refine ⟨e1, e2, e3, fun c hc => ?_⟩
  rw [List.all_map, List.all_eq_true] at h4
  exact of_decide_eq_true (h4 c hc)
theorem ok_choB {v : List Nat} (h : Stp.ok (.drop v)) : choB v = true := by
  obtain ⟨h1, h2, h3, h4⟩ := h
  unfold choB
  rw [decide_eq_true h1, decide_eq_true h2, decide_eq_true h3, Bool.true_and, Bool.true_and, Bool.true_and, List.all_map, List.all_eq_true]
  exact fun c hc => decide_eq_true (h4 c hc)
theorem rd_no {w : List Nat} {vs : List (List Nat)} (h : rd w vs = none) : stpB (S w) (vs.map (valD w)) = false := by
  obtain ⟨e1, e2, e3, e4, e5, e6⟩ := words_S
  unfold rd at h
  unfold stpB
  rw [e1, e2, e3, e4, e5, e6]
  by_cases h1 : w = lowW
  · rw [if_pos h1] at h
    rw [if_pos (by rw [h1])]
    by_cases q : vs = []
    · rw [if_pos q] at h; cases h
    · exact decide_eq_false fun z => q (by rw [List.length_map] at z; exact List.eq_nil_of_length_eq_zero z)
  rw [if_neg h1] at h
  rw [if_neg (str_ne h1)]
  by_cases h2 : w = swapW
  · rw [if_pos h2] at h
    rw [if_pos (by rw [h2])]
    have hv : valD w = Ds.txt := funext fun v => by unfold valD; rw [if_neg (by rw [h2]; decide)]
    rw [hv]
    match vs, h with
    | [], _ => rfl
    | [_], _ => rfl
    | [a, b], h => exact twoC_no h
    | _ :: _ :: _ :: _, _ => rfl
  rw [if_neg h2] at h
  rw [if_neg (str_ne h2)]
  match vs, h with
  | [], _ => rfl
  | _ :: _ :: _, _ => rfl
  | [v], h =>
    show (if V.str (S w) = V.str (S dropW) then (valD w v).cho else if V.str (S w) = V.str (S leadW) ∨ V.str (S w) = V.str (S onceW) then (valD w v).chr else decide (V.str (S w) = V.str (S cutW)) && ((valD w v).isI && (valD w v).cut)) = false
    replace h : (if w = dropW then dropC v else if w = leadW then oneC .lead v else if w = onceW then oneC .once v else if w = cutW then cutC v else none) = none := h
    have txt : w ≠ cutW → valD w v = .txt v := fun n => by unfold valD; rw [if_neg n]
    by_cases h3 : w = dropW
    · rw [if_pos h3] at h
      rw [if_pos (by rw [h3]), txt (by rw [h3]; decide)]
      unfold dropC at h
      cases q : choB v with
      | false => exact q
      | true => rw [if_pos q] at h; cases h
    rw [if_neg h3] at h
    rw [if_neg (str_ne h3)]
    by_cases h4 : w = leadW
    · rw [if_pos h4] at h
      rw [if_pos (.inl (by rw [h4])), txt (by rw [h4]; decide)]
      exact oneC_no h
    rw [if_neg h4] at h
    by_cases h5 : w = onceW
    · rw [if_pos h5] at h
      rw [if_pos (.inr (by rw [h5])), txt (by rw [h5]; decide)]
      exact oneC_no h
    rw [if_neg h5] at h
    rw [if_neg (fun z => z.elim (str_ne h4) (str_ne h5))]
    by_cases h6 : w = cutW
    · rw [if_pos h6] at h
      unfold valD
      rw [if_pos h6, cutD_no h, Bool.and_false]
    · rw [decide_eq_false (str_ne h6), Bool.false_and]
theorem rd_yes {w : List Nat} {vs : List (List Nat)} {st : Stp} (h : rd w vs = some st) : st.ok ∧ (V.str (S w) :: vs.map (valV' w)) = stpVals st := by
  obtain ⟨e1, e2, e3, e4, e5, e6⟩ := words_S
  unfold rd at h
  have txt : ∀ v, w ≠ cutW → valV' w v = .str (S v) := fun v n => by unfold valV'; rw [if_neg n]
  by_cases h1 : w = lowW
  · rw [if_pos h1] at h
    by_cases q : vs = []
    · rw [if_pos q] at h; cases h
      exact ⟨trivial, by rw [q, h1, ← e1]; rfl⟩
    · rw [if_neg q] at h; cases h
  rw [if_neg h1] at h
  by_cases h2 : w = swapW
  · rw [if_pos h2] at h
    obtain ⟨a, ha, b, hb, rfl, rfl⟩ := twoC_yes h
    refine ⟨⟨ha, hb⟩, ?_⟩
    rw [List.map_cons, List.map_cons, List.map_nil, txt _ (by rw [h2]; decide), txt _ (by rw [h2]; decide), h2, ← e2]; rfl
  rw [if_neg h2] at h
  match vs, h with
  | [v], h =>
    replace h : (if w = dropW then dropC v else if w = leadW then oneC .lead v else if w = onceW then oneC .once v else if w = cutW then cutC v else none) = some st := h
    by_cases h3 : w = dropW
    · rw [if_pos h3] at h
      unfold dropC at h
      by_cases q : choB v = true
      · rw [if_pos q] at h; cases h
        exact ⟨choB_ok q, by rw [List.map_cons, List.map_nil, txt _ (by rw [h3]; decide), h3, ← e3]; rfl⟩
      · rw [if_neg q] at h; cases h
    rw [if_neg h3] at h
    by_cases h4 : w = leadW
    · rw [if_pos h4] at h
      obtain ⟨c, hc, rfl, rfl⟩ := oneC_yes h
      exact ⟨hc, by rw [List.map_cons, List.map_nil, txt _ (by rw [h4]; decide), h4, ← e4]; rfl⟩
    rw [if_neg h4] at h
    by_cases h5 : w = onceW
    · rw [if_pos h5] at h
      obtain ⟨c, hc, rfl, rfl⟩ := oneC_yes h
      exact ⟨hc, by rw [List.map_cons, List.map_nil, txt _ (by rw [h5]; decide), h5, ← e5]; rfl⟩
    rw [if_neg h5] at h
    by_cases h6 : w = cutW
    · rw [if_pos h6] at h
      obtain ⟨d, hd1, hd2, rfl, rfl⟩ := cutC_yes h
      refine ⟨⟨by omega, by omega⟩, ?_⟩
      rw [List.map_cons, List.map_nil]
      have : valV' w [d] = .int ((d - 48 : Nat) : Int) := by
        unfold valV'
        rw [if_pos h6]
        show (if 48 ≤ d ∧ d ≤ 57 then V.int ((d : Int) - 48) else .str (S [d])) = _
        rw [if_pos ⟨by omega, hd2⟩]
        congr 1; omega
      rw [this, h6, ← e6]; rfl
    · rw [if_neg h6] at h; cases h
/-! ### a part and its words -/
def untild (c : Nat) : Nat := if c = 126 then 32 else c
def spl32 (x : List Nat) : List (List Nat) := TL.spl [32] 0 [] x
def spl2 (x : List Nat) : List (List Nat) := TL.spl [59, 32] 0 [] x
theorem spl_acc {S' : List Nat} : ∀ (x acc : List Nat), TL.spl S' 0 acc x ≠ []
  | [], acc => by rw [TL.spl_nil]; exact List.cons_ne_nil _ _
  | c :: r, acc => by
    show (if TL.pre S' (c :: r) = true then acc :: TL.spl S' (S'.length - 1) [] r else TL.spl S' 0 (acc ++ [c]) r) ≠ []
    split
    · exact List.cons_ne_nil _ _
    · exact spl_acc r _
/-- one sign as the separator -/
theorem spl1 {s : Nat} : ∀ (x acc : List Nat), TL.joinL [s] (TL.spl [s] 0 acc x) = acc ++ x ∧ (s ∉ acc → ∀ p ∈ TL.spl [s] 0 acc x, s ∉ p)
  | [], acc => by
    rw [TL.spl_nil]
    exact ⟨by rw [List.append_nil]; rfl, fun h p hp => by rw [List.mem_singleton.mp hp]; exact h⟩
  | c :: r, acc => by
    have e : TL.spl [s] 0 acc (c :: r) = if TL.pre [s] (c :: r) = true then acc :: TL.spl [s] 0 [] r else TL.spl [s] 0 (acc ++ [c]) r := rfl
    have pe : TL.pre [s] (c :: r) = true ↔ c = s := by
      unfold TL.pre
      simp
    rw [e]
    by_cases h : TL.pre [s] (c :: r) = true
    · rw [if_pos h]
      have hc := pe.mp h
      obtain ⟨i1, i2⟩ := spl1 (s := s) r []
      refine ⟨?_, fun ha p hp => ?_⟩
      · cases q : TL.spl [s] 0 [] r with
        | nil => exact absurd q (spl_acc r [])
        | cons y ys =>
          show acc ++ ([s] ++ TL.joinL [s] (y :: ys)) = _
          rw [← q, i1, hc]; rfl
      · rcases List.mem_cons.mp hp with rfl | hp
        · exact ha
        · exact i2 (fun z => nomatch z) p hp
    · rw [if_neg h]
      obtain ⟨i1, i2⟩ := spl1 (s := s) r (acc ++ [c])
      refine ⟨by rw [i1, List.append_assoc]; rfl, fun ha p hp => i2 (fun z => ?_) p hp⟩
      rcases List.mem_append.mp z with z | z
      · exact ha z
      · exact h (pe.mpr (List.mem_singleton.mp z).symm)
theorem tild_un {w : List Nat} (h : 32 ∉ w) : (w.map untild).map tild = w := by
  rw [List.map_map]
  have : ∀ c ∈ w, (tild ∘ untild) c = c := fun c hc => by
    show tild (untild c) = c
    unfold tild untild swapC
    by_cases e : c = 126
    · rw [if_pos e, if_pos rfl, e]
    · rw [if_neg e, if_neg (fun z : c = 32 => h (by rw [← z]; exact hc))]
  rw [List.map_congr_left this, List.map_id']
/-- a part: its first word, the others without tildes -/
def rdP (x : List Nat) : Option Stp := match spl32 x with
  | [] => none
  | w :: ws => rd w (ws.map fun v => v.map untild)
theorem rdP_part {x : List Nat} {st : Stp} (h : rdP x = some st) : partL st = x := by
  unfold rdP at h
  have j : TL.joinL [32] (spl32 x) = x := (spl1 x []).1
  have n32 : ∀ p ∈ spl32 x, 32 ∉ p := (spl1 x []).2 (fun z => nomatch z)
  cases q : spl32 x with
  | nil => rw [q] at h; cases h
  | cons w ws =>
    rw [q] at h j n32
    replace h : rd w (ws.map fun v => v.map untild) = some st := h
    have back : ∀ v ∈ ws, (v.map untild).map tild = v := fun v hv => tild_un (n32 v (List.mem_cons_of_mem _ hv))
    have key : wordL st :: argL st = w :: ws := by
      unfold rd at h
      by_cases h1 : w = lowW
      · rw [if_pos h1] at h
        by_cases q : ws.map (fun v => v.map untild) = []
        · rw [if_pos q] at h; cases h
          rw [List.map_eq_nil_iff.mp q, h1]; rfl
        · rw [if_neg q] at h; cases h
      rw [if_neg h1] at h
      by_cases h2 : w = swapW
      · rw [if_pos h2] at h
        obtain ⟨a, ha, b, hb, e, rfl⟩ := twoC_yes h
        match ws, e, back with
        | [u, v], e, back =>
          have b1 := back u (by simp)
          have b2 := back v (by simp)
          simp only [List.map_cons, List.map_nil, List.cons.injEq, and_true] at e
          rw [e.1] at b1
          rw [e.2] at b2
          rw [h2, ← b1, ← b2]; rfl
        | [], e, _ => cases e
        | [_], e, _ => simp at e
        | _ :: _ :: _ :: _, e, _ => simp at e
      rw [if_neg h2] at h
      match ws, h, back with
      | [], h, _ => cases h
      | _ :: _ :: _, h, _ => cases h
      | [v], h, back =>
        have b := back v (by simp)
        replace h : (if w = dropW then dropC (v.map untild) else if w = leadW then oneC .lead (v.map untild) else if w = onceW then oneC .once (v.map untild) else if w = cutW then cutC (v.map untild) else none) = some st := h
        by_cases h3 : w = dropW
        · rw [if_pos h3] at h
          unfold dropC at h
          by_cases q : choB (v.map untild) = true
          · rw [if_pos q] at h; cases h
            rw [h3]
            show [_, (v.map untild).map tild] = _
            rw [b]; rfl
          · rw [if_neg q] at h; cases h
        rw [if_neg h3] at h
        by_cases h4 : w = leadW
        · rw [if_pos h4] at h
          obtain ⟨c, hc, e, rfl⟩ := oneC_yes h
          rw [e] at b
          rw [h4, ← b]; rfl
        rw [if_neg h4] at h
        by_cases h5 : w = onceW
        · rw [if_pos h5] at h
          obtain ⟨c, hc, e, rfl⟩ := oneC_yes h
          rw [e] at b
          rw [h5, ← b]; rfl
        rw [if_neg h5] at h
        by_cases h6 : w = cutW
        · rw [if_pos h6] at h
          obtain ⟨d, d1, d2, e, rfl⟩ := cutC_yes h
          rw [e] at b
          have : tild d = d := by unfold tild swapC; rw [if_neg (by omega)]
          rw [h6, ← b]
          show [_, [48 + (d - 48)]] = [_, [tild d]]
          rw [this, show 48 + (d - 48) = d by omega]; rfl
        · rw [if_neg h6] at h; cases h
    show TL.joinL [32] (wordL st :: argL st) = x
    rw [key]; exact j
end Pd

set_option maxHeartbeats 4000000
namespace Pd
open PySem PySem.Spec PyProof.Rows L2 SX
/-! ### sizes of what split gives -/
theorem spl_len {s : List Nat} : ∀ (x : List Nat) (k : Nat) (acc : List Nat), (∀ p ∈ TL.spl s k acc x, p.length ≤ acc.length + x.length) ∧ (TL.spl s k acc x).length ≤ x.length + 1
  | [], k, acc => by
    rw [TL.spl_nil]
    exact ⟨fun p hp => by rw [List.mem_singleton.mp hp]; omega, by simp⟩
  | c :: r, 0, acc => by
    have e : TL.spl s 0 acc (c :: r) = if TL.pre s (c :: r) = true then acc :: TL.spl s (s.length - 1) [] r else TL.spl s 0 (acc ++ [c]) r := rfl
    rw [e]
    by_cases h : TL.pre s (c :: r) = true
    · rw [if_pos h]
      obtain ⟨i1, i2⟩ := spl_len (s := s) r (s.length - 1) []
      refine ⟨fun p hp => ?_, by rw [List.length_cons, List.length_cons]; omega⟩
      rcases List.mem_cons.mp hp with rfl | hp
      · omega
      · have := i1 p hp
        rw [List.length_nil] at this
        rw [List.length_cons]; omega
    · rw [if_neg h]
      obtain ⟨i1, i2⟩ := spl_len (s := s) r 0 (acc ++ [c])
      refine ⟨fun p hp => ?_, by rw [List.length_cons]; omega⟩
      have := i1 p hp
      rw [List.length_append] at this
      simp only [List.length_cons, List.length_nil] at this ⊢
      omega
  | c :: r, k + 1, acc => by
    obtain ⟨i1, i2⟩ := spl_len (s := s) r k acc
    refine ⟨fun p hp => ?_, ?_⟩
    · have := i1 p hp
      rw [List.length_cons]; omega
    · show (TL.spl s k acc r).length ≤ _
      rw [List.length_cons]; omega
theorem w_len {x : List Nat} : (∀ p ∈ spl32 x, p.length ≤ x.length) ∧ (spl32 x).length ≤ x.length + 1 := by
  have h := spl_len (s := [32]) x 0 []
  simpa [spl32] using h
theorem p_len {x : List Nat} : (∀ p ∈ spl2 x, p.length ≤ x.length) ∧ (spl2 x).length ≤ x.length + 1 := by
  have h := spl_len (s := [59, 32]) x 0 []
  simpa [spl2] using h
theorem splS32 (x : List Nat) : Txt.split (S x) " " = (spl32 x).map S := by
  rw [space_S]
  exact split_S (by decide) (by decide)
theorem splS2 (x : List Nat) : Txt.split (S x) "; " = (spl2 x).map S := by
  rw [semi_S]
  exact split_S (by decide) (by decide)
theorem untild_S (l : List Nat) : Txt.replace (S l) "~" " " = S (l.map untild) := by
  have e1 : (" " : Str) = sg 32 := by decide +kernel
  have e2 : ("~" : Str) = sg 126 := by decide +kernel
  rw [e1, e2, replace_mk]
  rfl
theorem cut_tail {xs : List V} : cutV xs (some 1) none = xs.tail := by
  by_cases h1 : 1 ≤ xs.length
  · have e1 : HT.sIx xs.length 0 (some 1) = 1 := by
      have := HT.sIx_nat xs.length 0 1
      rw [show ((1 : Nat) : Int) = 1 from rfl] at this
      rw [this]; omega
    unfold cutV
    rw [e1, HT.sIx_none, List.take_of_length_le (by rw [List.length_drop]; exact Nat.le_refl _), List.drop_one]
  · have : xs = [] := List.eq_nil_of_length_eq_zero (by omega)
    subst this
    unfold cutV
    simp
theorem tailL {K : PySem.W.Frag} {σ : L2.St} {H : Hp} {a : Addr} {xs : List V} {Q : VK} (h : SqL K H a xs) (q : ∀ p, H p = none → Q (.ref p) (L2.upd H p (.lst xs.tail))) : tNoPart σ H fun u H3 => rSlL K (.ref a) (some 1) u H3 Q := by
  refine ⟨a, xs, rfl, h, fun p hp => ?_⟩
  rw [cut_tail]
  exact q p hp
theorem digits10 : ("0123456789" : Str) = S [48, 49, 50, 51, 52, 53, 54, 55, 56, 57] := by decide +kernel
theorem dig_mem {d : Nat} : d ∈ ([48, 49, 50, 51, 52, 53, 54, 55, 56, 57] : List Nat) ↔ 48 ≤ d ∧ d ≤ 57 := by
  simp only [List.mem_cons, List.not_mem_nil, or_false]; omega
theorem int_dig {d : Nat} (h : 48 ≤ d ∧ d ≤ 57) : PySem.intText? (S [d]) = some ((d : Int) - 48) := by
  obtain rfl | rfl | rfl | rfl | rfl | rfl | rfl | rfl | rfl | rfl : d = 48 ∨ d = 49 ∨ d = 50 ∨ d = 51 ∨ d = 52 ∨ d = 53 ∨ d = 54 ∨ d = 55 ∨ d = 56 ∨ d = 57 := by omega
  all_goals decide +kernel
/-- the texts' constants here -/
structure CstR (mg : Str → Option Value) : Prop where
  between : ∃ t, mg "BETWEEN_STEPS" = some (.str "; " t)
  without : ∃ t, mg "WITHOUT_STEPS" = some (.str "plain" t)
  digits : ∃ t, mg "DIGITS" = some (.str "0123456789" t)
def spNum : Sp := fun vs H Q _ => ∃ v : List Nat, vs = [.str (S v)] ∧ v.length ≤ 1000 ∧ Q (numV v) H
def unt (ws : List (List Nat)) : List (List Nat) := ws.map fun v => v.map untild
def spStepOf : Sp := fun vs H Q _ => ∃ x : List Nat, vs = [.str (S x)] ∧ x.length ≤ 1000 ∧ ∀ w ws p H', spl32 x = w :: ws → Ext H H' → H' p = some (.tup (V.str (S w) :: (unt ws).map (valV' w))) → Q (.ref p) H'
section
variable {P : Program} {w : World} {K : PySem.W.Frag} {mg : Str → Option Value} {base : Heap}
theorem ok_num {f : Addr} {fd : FuncData} (F : Fun K "_number_of" "_number_of" sNumberOf f fd) (T : Nms mg) (C : CstR mg) : FnOk P w K mg base CX0 1 f fd ["word"] spNum := by
  refine F.ok scNumberOf (fun vs H Q E h => ?_) (fun cdv A outer s H vs Q E hr h => ?_)
  · obtain ⟨v, rfl, _⟩ := h
    rfl
  · obtain ⟨v, rfl, hl, q⟩ := h
    have nd := scNumberOf.nd
    obtain ⟨td, hd⟩ := C.digits
    refine ⟨_, pss_one (ps_ret (pe_ifExp (PW.pt (pw_and (pt_cmpR op_eq (pe_callB call_len_str (by rfl) T.len PySem.boot_len (pa_cons (pv 0) pa_nil)) pe_int (nomark _)) (pw_and1 (pt_cmpR op_in_sign (pv 0) (pe_glob (v := .str _) rfl hd ⟨_, rfl⟩) rfl))))
      (pe_callTy call_int_str (by rfl) T.int (by decide +kernel) (pa_cons (pv 0) pa_nil)) (pv 0))), ?_⟩
    refine ⟨_, rfl, _, rfl, by rw [S_len, sizeLine_eq]; omega, rfl, _, rfl, ?_⟩
    rw [S_len]
    match v, hl, q with
    | [], _, q =>
      rw [decide_eq_false (show ¬ V.int ((([] : List Nat).length : Nat) : Int) = V.int 1 from fun z => by injection z with z; exact absurd z (by decide))]
      exact iteF ⟨_, rfl, q⟩
    | [d], _, q =>
      rw [decide_eq_true (show V.int ((([d] : List Nat).length : Nat) : Int) = V.int 1 from rfl)]
      refine iteT ⟨_, rfl, d, _, rfl, rfl, _, rfl, ?_⟩
      rw [digits10]
      replace q : Q (if 48 ≤ d ∧ d ≤ 57 then .int ((d : Int) - 48) else .str (S [d])) H := q
      have e : decide (d ∈ (S [48, 49, 50, 51, 52, 53, 54, 55, 56, 57]).cps.toList) = decide (48 ≤ d ∧ d ≤ 57) := decide_eq_decide.mpr (by show d ∈ [48, 49, 50, 51, 52, 53, 54, 55, 56, 57] ↔ _; exact dig_mem)
      rw [e]
      by_cases h : 48 ≤ d ∧ d ≤ 57
      · rw [if_pos h] at q
        rw [decide_eq_true h]
        exact iteT ⟨_, rfl, S [d], _, rfl, int_dig h, (by rw [S_len]; show 1 ≤ 640; decide), q⟩
      · rw [if_neg h] at q
        rw [decide_eq_false h]
        exact iteF ⟨_, rfl, q⟩
    | a :: b :: r, _, q =>
      rw [decide_eq_false (show ¬ V.int (((a :: b :: r).length : Nat) : Int) = V.int 1 from fun z => by injection z with z; rw [List.length_cons, List.length_cons] at z; omega)]
      exact iteF ⟨_, rfl, q⟩
theorem ok_stepOf {f : Addr} {fd : FuncData} (F : Fun K "_step_of" "_step_of" sStepOf f fd) (T : Nms mg) (N : Cl P w K mg base 1 "_number_of" spNum) : FnOk P w K mg base CX0 2 f fd ["part"] spStepOf := by
  refine fnOk_1 F scStepOf (by decide +kernel) (by decide) (fun vs H Q E h => ?_) (fun cdv A outer s H vs Q E hr h => ?_)
  · obtain ⟨x, rfl, _⟩ := h
    rfl
  · obtain ⟨x, rfl, hl, q⟩ := h
    have nd := scStepOf.nd
    refine ⟨_, pssn_cut (psn_set (i := 1) nd rfl (Or.inl rfl) (pen (pe_split (pv 0) pe_str)))
      (pssn_cut (psn_setLc (i := 2) (own := [("word", 3)]) (g := gName 3) (tt := tYes) rfl nd rfl rfl (sw_true rfl rfl rfl (by decide +kernel)) (pi_list (pe_slice sl_list (pv 1) (po_some pe_int) po_none)) (blkOk_by (N := ["part", "words", "values", "word", "value"]) (sc := defScope sStepOf) (by decide +kernel)) (fun _ _ _ _ _ => pg_name (i := 3) nd rfl (Or.inl rfl)) (fun _ _ _ _ _ => pts_nil)
        (fun _ _ _ _ _ => pen_replC (Nat.le_refl 1) (pv 3)))
      (pssn_cut (psn_if (ptn (pt_cmpR op_eq (pe_ix ix_list (pv 1) pe_int (fun _ _ => rfl)) pe_str (nomark _))) (pssn_one (psn (ps_setLc (i := 2) (own := [("value", 4)]) (g := gName 4) (tt := tYes) rfl nd rfl rfl (sw_true rfl rfl rfl (by decide +kernel)) (pi_list (pv 2)) (blkOk_by (N := ["part", "words", "values", "word", "value"]) (sc := defScope sStepOf) (by decide +kernel)) (fun _ _ _ _ _ => pg_name (i := 4) nd rfl (Or.inl rfl)) (fun _ _ _ _ _ => pts_nil)
        (fun _ _ _ _ _ => pe_cl N hr (by decide) rfl (pa_cons (pv 4) pa_nil))))) (pssn pss_nil))
      (pssn_one (psn_ret (pen (pe_callTy call_tuple_of (by rfl) T.tuple (by decide +kernel) (pa_cons (pe_op op_cat (pe_lst (pa_cons (pe_ix ix_list (pv 1) pe_int (fun _ _ => rfl)) pa_nil)) (pv 2)) pa_nil))))))), ?_⟩
    obtain ⟨wl, wn⟩ := w_len (x := x)
    obtain ⟨w0, ws, ew⟩ : ∃ w ws, spl32 x = w :: ws := by
      cases h : spl32 x with
      | nil => exact absurd h (spl_acc x [])
      | cons w ws => exact ⟨w, ws, rfl⟩
    rw [ew] at wl wn
    have wsl : ∀ v ∈ ws, v.length ≤ 1000 := fun v hv => Nat.le_trans (wl v (List.mem_cons_of_mem _ hv)) hl
    rw [List.length_cons] at wn
    refine ⟨fun σ' H' => ∃ a, σ' = [some (.str (S x)), some (.ref a), none, none, none] ∧ H' a = some (.lst (((w0 :: ws).map S).map V.str)) ∧ Ext H H', ?_, ?_⟩
    · refine ⟨_, rfl, ⟨_, rfl⟩, _, _, rfl, rfl, by decide +kernel, by rw [S_len, sizeLine_eq]; omega, fun p hp => ⟨p, rfl, ?_, Ext.refl.new hp⟩⟩
      rw [splS32, ew]; exact upd_same
    rintro σ1 H1 ⟨a, rfl, ha, k1⟩
    refine ⟨fun σ' H' => ∃ b u3, σ' = [some (.str (S x)), some (.ref a), some (.ref b), u3, none] ∧ H' b = some (.lst (((unt ws).map S).map V.str)) ∧ Ext H1 H', ?_, ?_⟩
    · refine ⟨_, rfl, 1, rfl, tailL (SqL.of ha) fun p hp => ⟨p, rfl, ⟨_, SqL.of upd_same⟩, fun D hD => ?_⟩⟩
      have kp : Ext H1 (L2.upd H1 p (.lst (((w0 :: ws).map S).map V.str).tail)) := Ext.refl.new hp
      refine lc_it (walk_list (xs := (ws.map S).map V.str)) (fun i H' => H' D = some (.lst ((((unt ws).take i).map S).map V.str)) ∧ Ext (L2.upd H1 p (.lst (((w0 :: ws).map S).map V.str).tail)) H') ⟨upd_same, Ext.refl.new hD⟩ (fun i H' _ z => SqL.of (z.2 p _ upd_same)) ?_ ?_
      · rintro i y H2 H3 hi ⟨h2, k2⟩ ⟨rfl, hx⟩
        rw [List.getElem?_map, List.getElem?_map] at hx
        obtain ⟨z, hz, rfl⟩ := Option.map_eq_some_iff.mp hx
        obtain ⟨v, hv, rfl⟩ := Option.map_eq_some_iff.mp hz
        have hvl := wsl v (List.mem_of_getElem? hv)
        have hiw := (List.getElem?_eq_some_iff.mp hv).1
        refine ⟨rfl, _, rfl, S v, rfl, ?_, ?_⟩
        · have e : (" " : Str).length = 1 := by decide +kernel
          rw [S_len, e]; omega
        rw [untild_S]
        refine ⟨_, h2, ?_, ?_, fun c o e => ?_⟩
        · rw [List.length_map, List.length_map, List.length_take, sizeLine_eq]; omega
        · have : (unt ws)[i]? = some (v.map untild) := by unfold unt; rw [List.getElem?_map, hv]; rfl
          rw [upd_same, List.take_succ, this, List.map_append, List.map_append]; rfl
        · rw [upd_ne (ne_of_none e hD)]; exact k2 c o e
      · rintro H2 ⟨h2, k2⟩
        have : ((ws.map S).map V.str).length = (unt ws).length := by unfold unt; rw [List.length_map, List.length_map, List.length_map]
        rw [this, List.take_length] at h2
        exact ⟨D, _, rfl, h2, kp.trans k2⟩
    rintro σ2 H2 ⟨b, u3, rfl, hb, k2⟩
    have hun : ∀ v ∈ unt ws, v.length ≤ 1000 := fun v hv => by
      unfold unt at hv
      obtain ⟨u, hu, rfl⟩ := List.mem_map.mp hv
      rw [List.length_map]; exact wsl u hu
    have hunl : (unt ws).length ≤ 1000 := by unfold unt; rw [List.length_map]; omega
    refine ⟨fun σ' H' => ∃ b u3 u4, σ' = [some (.str (S x)), some (.ref a), some (.ref b), u3, u4] ∧ H' b = some (.lst ((unt ws).map (valV' w0))) ∧ Ext H2 H', ?_, ?_⟩
    · refine ⟨_, rfl, a, _, 0, _, rfl, rfl, SqL.of (k2 a _ ha), at0, rfl, _, rfl, ?_⟩
      rw [words_S.2.2.2.2.2, dec_S]
      by_cases hc : w0 = cutW
      · rw [decide_eq_true hc]
        refine iteT ⟨_, rfl, b, rfl, ⟨_, SqL.of hb⟩, fun D hD => ?_⟩
        refine lc_it (walk_list (xs := ((unt ws).map S).map V.str)) (fun i H' => H' D = some (.lst (((unt ws).take i).map (valV' w0))) ∧ Ext H2 H') ⟨upd_same, Ext.refl.new hD⟩ (fun i H' _ z => SqL.of (z.2 b _ hb)) ?_ ?_
        · rintro i y H3 H4 hi ⟨h3, k3⟩ ⟨rfl, hx⟩
          rw [List.getElem?_map, List.getElem?_map] at hx
          obtain ⟨z, hz, rfl⟩ := Option.map_eq_some_iff.mp hx
          obtain ⟨v, hv, rfl⟩ := Option.map_eq_some_iff.mp hz
          refine ⟨rfl, _, rfl, v, rfl, hun v (List.mem_of_getElem? hv), _, h3, ?_, ?_, fun c o e => ?_⟩
          · rw [List.length_map, List.length_take, sizeLine_eq]; omega
          · have e : valV' w0 v = numV v := by unfold valV'; rw [if_pos hc]
            rw [upd_same, List.take_succ, hv, List.map_append]
            show _ = some (HO.lst (_ ++ [valV' w0 v]))
            rw [e]
          · rw [upd_ne (ne_of_none e hD)]; exact k3 c o e
        · rintro H3 ⟨h3, k3⟩
          rw [List.length_map, List.length_map, List.take_length] at h3
          exact ⟨D, _, _, rfl, h3, k3⟩
      · rw [decide_eq_false hc]
        refine iteF ⟨b, _, _, rfl, ?_, .refl⟩
        have e : valV' w0 = fun v => V.str (S v) := funext fun v => by unfold valV'; rw [if_neg hc]
        rw [hb, e, List.map_map]; rfl
    rintro σ3 H3 ⟨b3, u3', u4', rfl, hb3, k3⟩
    refine ⟨_, rfl, a, _, 0, _, rfl, rfl, SqL.of (k3 a _ (k2 a _ ha)), at0, by show 1 ≤ sizeLine; decide, fun p1 hp1 => ?_⟩
    have kp1 : Ext H3 (L2.upd H3 p1 (.lst [V.str (S w0)])) := Ext.refl.new hp1
    refine ⟨_, rfl, p1, b3, _, _, rfl, rfl, upd_same, kp1 b3 _ hb3, ?_, fun p2 hp2 => ?_⟩
    · rw [List.length_map, sizeLine_eq]; show 1 + _ ≤ _; omega
    have kp2 : Ext (L2.upd H3 p1 (.lst [V.str (S w0)])) (L2.upd (L2.upd H3 p1 (.lst [V.str (S w0)])) p2 (.lst ([V.str (S w0)] ++ (unt ws).map (valV' w0)))) := Ext.refl.new hp2
    refine ⟨p2, _, rfl, .inl ⟨SqL.of upd_same, fun p3 hp3 => ?_⟩⟩
    exact q w0 ws p3 _ ew ((((k1.trans k2).trans k3).trans (kp1.trans kp2)).new' hp3) upd_same
end
end Pd

set_option maxHeartbeats 4000000
namespace Pd
open PySem PySem.Spec PyProof.Rows L2 SX
/-! ### the class Doors -/
def dflds (o1 o2 o3 o4 : Addr) : List (Str × V) := [("_put", .ref o1), ("_find", .ref o2), ("_strike", .ref o3), ("_wish", .ref o4)]
/-- doors at d, of four foldings -/
structure DrAt (K : PySem.W.Frag) (C CD : Addr) (H : Hp) (d : Addr) (o1 o2 o3 o4 r1 r2 r3 r4 : Addr) (s1 s2 s3 s4 : List Stp) : Prop where
  ins : ∃ dx, H d = some (.ins CD dx (dflds o1 o2 o3 o4))
  f1 : FoldAt K C H o1 r1 s1
  f2 : FoldAt K C H o2 r2 s2
  f3 : FoldAt K C H o3 r3 s3
  f4 : FoldAt K C H o4 r4 s4
section
variable {K : PySem.W.Frag} {C CD : Addr} {H H' : Hp} {d o1 o2 o3 o4 r1 r2 r3 r4 : Addr} {s1 s2 s3 s4 : List Stp}
theorem DrAt.ext (h : DrAt K C CD H d o1 o2 o3 o4 r1 r2 r3 r4 s1 s2 s3 s4) (k : Ext H H') : DrAt K C CD H' d o1 o2 o3 o4 r1 r2 r3 r4 s1 s2 s3 s4 := by
  obtain ⟨dx, e⟩ := h.ins
  exact ⟨⟨dx, k d _ e⟩, h.f1.ext k, h.f2.ext k, h.f3.ext k, h.f4.ext k⟩
theorem DrAt.kp {j : Addr} {xs : List V} (h : DrAt K C CD H d o1 o2 o3 o4 r1 r2 r3 r4 s1 s2 s3 s4) (k : Kp j H H') (hj : H j = some (.lst xs)) : DrAt K C CD H' d o1 o2 o3 o4 r1 r2 r3 r4 s1 s2 s3 s4 := by
  obtain ⟨dx, e⟩ := h.ins
  exact ⟨⟨dx, k d _ (by rintro rfl; rw [e] at hj; cases hj) e⟩, h.f1.kp k hj, h.f2.kp k hj, h.f3.kp k hj, h.f4.kp k hj⟩
end
structure Dcl (K : PySem.W.Frag) (mg : Str → Option Value) (CD : Addr) : Prop where
  cl : Cls K CD
  n1 : NoAttr K CD "_put"
  n2 : NoAttr K CD "_find"
  n3 : NoAttr K CD "_strike"
  n4 : NoAttr K CD "_wish"
  mgC : mg "Doors" = some (.ref CD)
def spDInit (CD : Addr) : Sp := fun vs H Q _ => ∃ (d dx o1 o2 o3 o4 : Addr), vs = [.ref d, .ref o1, .ref o2, .ref o3, .ref o4] ∧ H d = some (.ins CD dx []) ∧ Q .non (upd H d (.ins CD dx (dflds o1 o2 o3 o4)))
/-- a method that tells a field -/
def spDGet (CD : Addr) (f : Str) : Sp := fun vs H Q _ => ∃ (d dx : Addr) (fs : List (Str × V)) (v : V), vs = [.ref d] ∧ H d = some (.ins CD dx fs) ∧ fs.lookup f = some v ∧ Q v H
theorem upd_upd {H : Hp} {a : Addr} {o u : HO} : L2.upd (L2.upd H a o) a u = L2.upd H a u := by
  funext b
  by_cases h : b = a
  · subst h; rw [upd_same, upd_same]
  · rw [upd_ne h, upd_ne h, upd_ne h]
section
variable {P : Program} {w : World} {K : PySem.W.Frag} {mg : Str → Option Value} {base : Heap}
theorem ok_dinit {f CD : Addr} {fd : FuncData} (F : Fun K "__init__" "Doors.__init__" sDoorsInit f fd) (Z : Dcl K mg CD) : FnOk P w K mg base CX0 1 f fd ["self", "put", "find", "strike", "wish"] (spDInit CD) := by
  refine F.ok scDoorsInit (fun vs H Q E h => ?_) (fun cdv A outer s H vs Q E hr h => ?_)
  · obtain ⟨d, dx, o1, o2, o3, o4, rfl, _⟩ := h
    rfl
  · obtain ⟨d, dx, o1, o2, o3, o4, rfl, e, q⟩ := h
    refine ⟨_, pss_cons (ps_fld (pv 0) (pv 1) rfl) (pss_cons (ps_fld (pv 0) (pv 2) rfl) (pss_cons (ps_fld (pv 0) (pv 3) rfl) (pss_one (ps_fld (pv 0) (pv 4) rfl)))), ?_⟩
    refine ⟨_, rfl, _, rfl, d, CD, dx, _, rfl, e, Z.cl, Z.n1, by show 0 < 1000; decide, ?_⟩
    refine ⟨_, rfl, _, rfl, d, CD, dx, _, rfl, upd_same, Z.cl, Z.n2, by show 1 < 1000; decide, ?_⟩
    refine ⟨_, rfl, _, rfl, d, CD, dx, _, rfl, upd_same, Z.cl, Z.n3, by show 2 < 1000; decide, ?_⟩
    refine ⟨_, rfl, _, rfl, d, CD, dx, _, rfl, upd_same, Z.cl, Z.n4, by show 3 < 1000; decide, ?_⟩
    rw [upd_upd, upd_upd, upd_upd]
    exact q
theorem ok_dput {f CD : Addr} {fd : FuncData} (F : Fun K "put" "Doors.put" sDoorsPut f fd) (Z : Dcl K mg CD) : FnOk P w K mg base CX0 1 f fd ["self"] (spDGet CD "_put") := by
  refine F.ok scDoorsPut (fun vs H Q E h => ?_) (fun cdv A outer s H vs Q E hr h => ?_)
  · obtain ⟨d, dx, fs, v, rfl, _⟩ := h
    rfl
  · obtain ⟨d, dx, fs, v, rfl, e, l, q⟩ := h
    exact ⟨_, pss_one (ps_ret (pe_fld (pv 0) rfl)), _, rfl, d, CD, dx, _, _, rfl, e, Z.cl, Z.n1, l, q⟩
theorem ok_dfind {f CD : Addr} {fd : FuncData} (F : Fun K "find" "Doors.find" sDoorsFind f fd) (Z : Dcl K mg CD) : FnOk P w K mg base CX0 1 f fd ["self"] (spDGet CD "_find") := by
  refine F.ok scDoorsFind (fun vs H Q E h => ?_) (fun cdv A outer s H vs Q E hr h => ?_)
  · obtain ⟨d, dx, fs, v, rfl, _⟩ := h
    rfl
  · obtain ⟨d, dx, fs, v, rfl, e, l, q⟩ := h
    exact ⟨_, pss_one (ps_ret (pe_fld (pv 0) rfl)), _, rfl, d, CD, dx, _, _, rfl, e, Z.cl, Z.n2, l, q⟩
theorem ok_dstrike {f CD : Addr} {fd : FuncData} (F : Fun K "strike" "Doors.strike" sDoorsStrike f fd) (Z : Dcl K mg CD) : FnOk P w K mg base CX0 1 f fd ["self"] (spDGet CD "_strike") := by
  refine F.ok scDoorsStrike (fun vs H Q E h => ?_) (fun cdv A outer s H vs Q E hr h => ?_)
  · obtain ⟨d, dx, fs, v, rfl, _⟩ := h
    rfl
  · obtain ⟨d, dx, fs, v, rfl, e, l, q⟩ := h
    exact ⟨_, pss_one (ps_ret (pe_fld (pv 0) rfl)), _, rfl, d, CD, dx, _, _, rfl, e, Z.cl, Z.n3, l, q⟩
theorem ok_dwish {f CD : Addr} {fd : FuncData} (F : Fun K "wish" "Doors.wish" sDoorsWish f fd) (Z : Dcl K mg CD) : FnOk P w K mg base CX0 1 f fd ["self"] (spDGet CD "_wish") := by
  refine F.ok scDoorsWish (fun vs H Q E h => ?_) (fun cdv A outer s H vs Q E hr h => ?_)
  · obtain ⟨d, dx, fs, v, rfl, _⟩ := h
    rfl
  · obtain ⟨d, dx, fs, v, rfl, e, l, q⟩ := h
    exact ⟨_, pss_one (ps_ret (pe_fld (pv 0) rfl)), _, rfl, d, CD, dx, _, _, rfl, e, Z.cl, Z.n4, l, q⟩
end
/-- the class Doors: made by position; its four methods -/
structure Drs (P : Program) (w : World) (K : PySem.W.Frag) (mg : Str → Option Value) (base : Heap) (CD : Addr) : Prop where
  z : Dcl K mg CD
  made : ∃ (f : Addr) (fd : FuncData), Mk K CD f ∧ FnOk P w K mg base CX0 1 f fd ["self", "put", "find", "strike", "wish"] (spDInit CD) ∧ Binds K fd ["self", "put", "find", "strike", "wish"] []
  put : ∃ (g : Addr) (fd : FuncData), Meth K CD "put" g ∧ FnOk P w K mg base CX0 1 g fd ["self"] (spDGet CD "_put") ∧ Binds K fd ["self"] []
  find : ∃ (g : Addr) (fd : FuncData), Meth K CD "find" g ∧ FnOk P w K mg base CX0 1 g fd ["self"] (spDGet CD "_find") ∧ Binds K fd ["self"] []
  strike : ∃ (g : Addr) (fd : FuncData), Meth K CD "strike" g ∧ FnOk P w K mg base CX0 1 g fd ["self"] (spDGet CD "_strike") ∧ Binds K fd ["self"] []
  wish : ∃ (g : Addr) (fd : FuncData), Meth K CD "wish" g ∧ FnOk P w K mg base CX0 1 g fd ["self"] (spDGet CD "_wish") ∧ Binds K fd ["self"] []
/-- doors made of four foldings: what __init__ asks -/
theorem dmade_ask {K : PySem.W.Frag} {C CD : Addr} {H : Hp} {x dx o1 o2 o3 o4 r1 r2 r3 r4 : Addr} {s1 s2 s3 s4 : List Stp} {Q : VK} {E : XK} (f1 : FoldAt K C H o1 r1 s1) (f2 : FoldAt K C H o2 r2 s2) (f3 : FoldAt K C H o3 r3 s3) (f4 : FoldAt K C H o4 r4 s4)
    (hx : H x = none) (hdx : H dx = none) (ne : dx ≠ x) (q : ∀ H', DrAt K C CD H' x o1 o2 o3 o4 r1 r2 r3 r4 s1 s2 s3 s4 → Ext H H' → Q .non H') :
    spDInit CD [.ref x, .ref o1, .ref o2, .ref o3, .ref o4] (upd (upd H dx (.own x)) x (.ins CD dx [])) Q E := by
  have k : Ext H (upd (upd (upd H dx (.own x)) x (.ins CD dx [])) x (.ins CD dx (dflds o1 o2 o3 o4))) := fun b u e => by
    rw [upd_ne (ne_of_none e hx), upd_ne (ne_of_none e hx), upd_ne (ne_of_none e hdx)]; exact e
  exact ⟨x, dx, o1, o2, o3, o4, rfl, upd_same, q _ ⟨⟨dx, upd_same⟩, f1.ext k, f2.ext k, f3.ext k, f4.ext k⟩ k⟩
end Pd

set_option maxHeartbeats 4000000
namespace Pd
open PySem PySem.Spec PyProof.Rows L2 SX
/-- four rows, in a list of their own -/
def Four (K : PySem.W.Frag) (H : Hp) (l : Addr) (rs : List Addr) (rws : List (List Stp)) : Prop := H l = some (.lst (rs.map V.ref)) ∧ Rw K H rs rws ∧ rws.length = 4
def spBdoors (K : PySem.W.Frag) : Sp := fun vs H Q _ => ∃ (j : Addr) (n : Nat) (l : List Nat), vs = [.ref j, .str (S l)] ∧ JarAt H j n ∧ PoolOk l ∧ n + 3000 < 1000000 ∧
  ∀ p rs rws H', H p = none → Four K H' p rs rws → JarAt H' j (n + 3000) → Kp j H H' → Q (.ref p) H'
theorem row_drop' {K : PySem.W.Frag} {σ : L2.St} {H : Hp} {r : Addr} {sts : List Stp} {k : Int} {Q : VK} (hR : RowAt K H r sts) (h0 : 0 ≤ k) (q : ∀ r' H', Ext H H' → RowAt K H' r' (sts.drop k.toNat) → Q (.ref r') H') : tNoPart σ H fun u H3 => rSlA K (.ref r) (some k) u H3 Q := row_drop hR h0 q
theorem RowAt.ok {K : PySem.W.Frag} {H : Hp} {r : Addr} {sts : List Stp} (h : RowAt K H r sts) : ∀ st ∈ sts, st.ok := by
  obtain ⟨ps, _, al⟩ := h
  exact al.ok
section
variable {P : Program} {w : World} {K : PySem.W.Frag} {mg : Str → Option Value} {base : Heap}
theorem ok_bdoors {f : Addr} {fd : FuncData} (F : Fun K "_law_doors" "_law_doors" sLawDoors f fd) (T : Nms mg) (D : Cl P w K mg base 1 "_law_draw" spDraw) (G : Cl P w K mg base 3 "_law_step" spBstep) (G2 : Cl P w K mg base 4 "_law_steps" (spBrow K)) : FnOk P w K mg base CX0 5 f fd ["well", "pool"] (spBdoors K) := by
  refine F.ok scLawDoors (fun vs H Q E h => ?_) (fun cdv A outer s H vs Q E hr h => ?_)
  · obtain ⟨j, n, l, rfl, _⟩ := h
    rfl
  · obtain ⟨j, n, l, rfl, hJ, hG, hn, q⟩ := h
    have nd := scLawDoors.nd
    refine ⟨_, pss_cons (ps_par (i := 2) (j := 3) rfl nd rfl rfl (by decide) rfl rfl (pa_cons (pe_cl G2 hr (by decide) rfl (pa_cons (pv 0) (pa_cons (pv 1) pa_nil))) (pa_cons (pe_lst pa_nil) pa_nil)) (by rfl))
      (pss_cons (ps_for PassesOwn.never rfl (pi_range1 rfl T.range (pa_cons pe_int pa_nil)) (pg_name (i := 4) nd rfl (Or.inl rfl))
        (pss_cons (ps_par (i := 5) (j := 6) rfl nd rfl rfl (by decide) rfl rfl (pa_cons (pe_cl D hr (by decide) rfl (pa_cons (pv 0) (pa_cons pe_int pa_nil))) (pa_cons (pe_cl D hr (by decide) rfl (pa_cons (pv 0) (pa_cons (pe_op op_add (pe_callB call_len_seq (by rfl) T.len PySem.boot_len (pa_cons (pv 2) pa_nil)) pe_int) pa_nil))) pa_nil)) (by rfl))
        (pss_cons (ps_set (i := 7) nd rfl (Or.inl rfl) (pv 2))
        (C8.pss_cut (ps_if (pt_cmpR op_eq (pv 5) pe_int (nomark _))
            (pss_one (ps_set (i := 7) nd rfl (Or.inl rfl) (pe_op op_catA (pe_slice sl_tupA (pv 2) po_none (po_some (pv 6))) (pe_slice sl_tupA (pv 2) (po_some (pe_op op_add (pv 6) pe_int)) po_none))))
            (pss_one (ps_if (PW.pt (pw_and (pt_cmpR op_eq (pv 5) pe_int (nomark _)) (pw_and1 (pt_cmpR op_lt (pe_callB call_len_seq (by rfl) T.len PySem.boot_len (pa_cons (pv 2) pa_nil)) pe_int (nomark _)))))
              (pss_one (ps_set (i := 7) nd rfl (Or.inl rfl) (pe_op op_catA (pe_op op_catA (pe_slice sl_tupA (pv 2) po_none (po_some (pv 6))) (pe_tup (pa_cons (pe_cl G hr (by decide) rfl (pa_cons (pv 0) (pa_cons (pv 1) pa_nil))) pa_nil))) (pe_slice sl_tupA (pv 2) (po_some (pv 6)) po_none))))
              (pss_one (ps_if (pt_cmpR op_eq (pv 5) pe_int (nomark _)) (pss_one (ps_set (i := 7) nd rfl (Or.inl rfl) (pe_cl G2 hr (by decide) rfl (pa_cons (pv 0) (pa_cons (pv 1) pa_nil))))) pss_nil)))))
        (pss_one (ps_expr (pe_bm PySem.F.plainAttrs_list PySem.F.slot_list_append PySem.F.type_list_append mt_append (pv 3) (pa_cons (pv 7) pa_nil))))))))
      (pss_one (ps_ret (pv 3)))), ?_⟩
    obtain ⟨xs0, hx0⟩ := hJ.lst
    refine ⟨_, rfl, _, rfl, j, n, l, rfl, hJ, hG, by omega, fun r sts H1 nr h6 R1 J1 k1 => ⟨by show 0 ≤ sizeLine; decide, fun p hp => ⟨_, _, rfl, ?_⟩⟩⟩
    have kp1 : Kp j H (L2.upd H1 p (.lst [])) := k1.new hp
    have Rp := R1.ext (Ext.refl.new (o := .lst []) hp)
    have np : H p = none := k1.none hp ⟨_, hx0⟩ J1.lst
    obtain ⟨xs1, hx1⟩ := J1.lst
    have npj : p ≠ j := by rintro rfl; rw [hx1] at hp; cases hp
    refine ⟨4, rfl, by decide, by decide, ?_⟩
    refine for_range (lo := 0) (n := 4) (fun i σ H' => ∃ u4 u5 u6 u7 rs rws, σ = [some (.ref j), some (.str (S l)), some (.ref r), some (.ref p), u4, u5, u6, u7] ∧ H' p = some (.lst (rs.map V.ref)) ∧ Rw K H' rs rws ∧ rws.length = i ∧ RowAt K H' r sts ∧ JarAt H' j (n + 400 + 500 * i) ∧ Kp j H H')
      ⟨_, _, _, _, [], [], rfl, upd_same, .nil, rfl, Rp, J1.new hp, kp1⟩ ?_ ?_
    · rintro i σ H2 hi ⟨u4, u5, u6, u7, rs, rws, rfl, hp2, W2, hl2, R2, J2, k2⟩
      refine ⟨_, rfl, j, 7, _, rfl, J2, by omega, by decide, by decide, fun way H3 hw0 hw1 J3 k3 => ?_⟩
      obtain ⟨xs2, hx2⟩ := J2.lst
      have R3 := R2.kp k3 hx2
      obtain ⟨ps3, hq3, al3⟩ := id R3
      refine ⟨_, rfl, _, rfl, r, _, rfl, .inr hq3, _, _, rfl, rfl, j, _, _, rfl, J3, by omega, ?_, ?_, fun k H4 hk0 hk1 J4 k4 => ?_⟩
      · rw [List.length_map, al3.len]; omega
      · rw [List.length_map, al3.len]; omega
      obtain ⟨xs3, hx3⟩ := J3.lst
      obtain ⟨xs4, hx4⟩ := J4.lst
      have k34 := k3.trans k4
      have R4 := R3.kp k4 hx3
      have W4 := W2.kp hx2 k34
      have hp4 := k34 p _ npj hp2
      have k24 := k2.trans k34
      refine ⟨_, _, rfl, ?_⟩
      refine ⟨_, rfl, ?_⟩
      refine ⟨fun σ' H' => ∃ r' sts', σ' = [some (.ref j), some (.str (S l)), some (.ref r), some (.ref p), some (.int (0 + (i : Nat))), some (.int way), some (.int k), some (.ref r')] ∧ sts'.length ≤ 6 ∧ RowAt K H' r' sts' ∧ H' p = some (.lst (rs.map V.ref)) ∧ Rw K H' rs rws ∧ RowAt K H' r sts ∧ JarAt H' j (n + 400 + 500 * i + 500) ∧ Kp j H H', ?_, ?_⟩
      · refine ⟨_, rfl, rfl, _, rfl, ite2 (fun _ => ?_) (fun _ => ?_)⟩
        · refine ⟨_, rfl, _, rfl, k, rfl, row_take R4 hk0 fun r1 H5 k5 R5 => ?_⟩
          refine ⟨_, rfl, _, rfl, _, _, rfl, rfl, _, rfl, ?_⟩
          refine row_drop' (K := K) (R4.ext k5) (by omega) fun r2 H6 k6 R6 => ?_
          refine row_cat (R5.ext k6) R6 (by rw [List.length_take, List.length_drop]; omega) fun r3 H7 k7 R7 => ?_
          have k57 := (k5.trans k6).trans k7
          exact ⟨r3, _, rfl, by rw [List.length_append, List.length_take, List.length_drop]; omega, R7, k57 p _ hp4, W4.ext k57, R4.ext k57, (J4.ext k57).le (by omega), k24.trans k57.kp⟩
        · have fin : ∃ r' sts', ([some (.ref j), some (.str (S l)), some (.ref r), some (.ref p), some (.int (0 + (i : Nat))), some (.int way), some (.int k), some (.ref r)] : L2.St) = [some (.ref j), some (.str (S l)), some (.ref r), some (.ref p), some (.int (0 + (i : Nat))), some (.int way), some (.int k), some (.ref r')] ∧ sts'.length ≤ 6 ∧ RowAt K H4 r' sts' ∧ H4 p = some (.lst (rs.map V.ref)) ∧ Rw K H4 rs rws ∧ RowAt K H4 r sts ∧ JarAt H4 j (n + 400 + 500 * i + 500) ∧ Kp j H H4 :=
            ⟨r, sts, rfl, h6, R4, hp4, W4, R4, J4.le (by omega), k24⟩
          have six : way = 6 → _ := fun _ => trivial
          refine ⟨_, rfl, rfl, _, rfl, ?_⟩
          by_cases h5 : V.int way = V.int 5
          · rw [decide_eq_true h5]
            obtain ⟨ps4, hq4, al4⟩ := id R4
            refine iteT ⟨_, rfl, r, _, rfl, .inr hq4, _, _, rfl, rfl, _, rfl, ?_⟩
            rw [List.length_map, al4.len]
            by_cases hl6 : sts.length < 6
            · rw [decide_eq_true (show ((sts.length : Nat) : Int) < 6 by omega)]
              refine iteT ⟨_, rfl, _, rfl, k, rfl, row_take R4 hk0 fun r1 H5 k5 R5 => ?_⟩
              refine ⟨_, rfl, _, rfl, j, _, l, rfl, J4.ext k5, hG, by omega, fun s st H6 ns hok hst J6 k6 => ?_⟩
              refine ⟨by show 1 ≤ sizeLine; decide, fun t ht => ?_⟩
              have hx5 : H5 j = some (.lst xs4) := k5 j _ hx4
              have kt : Ext H6 (L2.upd H6 t (.tup [.ref s])) := Ext.refl.new ht
              have R7 : RowAt K (L2.upd H6 t (.tup [.ref s])) t [st] := ⟨[s], SqT.of upd_same, .cons (hst.ext kt) hok .nil⟩
              refine row_cat ((R5.kp k6 hx5).ext kt) R7 (by rw [List.length_take]; show _ + 1 ≤ 1000; omega) fun r3 H7 k7 R7' => ?_
              have R4' : RowAt K H7 r sts := (((R4.ext k5).kp k6 hx5).ext kt).ext k7
              refine ⟨_, rfl, _, rfl, k, rfl, ?_⟩
              refine row_drop' (K := K) R4' hk0 fun r4 H8 k8 R8 => ?_
              refine row_cat (R7'.ext k8) R8 (by rw [List.length_append, List.length_take, List.length_drop]; show _ + 1 + _ ≤ 1000; omega) fun r5 H9 k9 R9 => ?_
              have kk : Ext H6 H9 := (((kt.trans k7).trans k8).trans k9)
              refine ⟨r5, _, rfl, ?_, R9, kk p _ (k6 p _ npj (k5 p _ hp4)), (((W4.ext k5).kp hx5 k6).ext kk), (R4'.ext k8).ext k9, (J6.ext kk).le (by omega), ((k24.trans k5.kp).trans k6).trans kk.kp⟩
              rw [List.length_append, List.length_append, List.length_take, List.length_drop]
              show _ + 1 + _ ≤ 6
              omega
            · rw [decide_eq_false (show ¬ ((sts.length : Nat) : Int) < 6 by omega)]
              refine iteF ⟨_, rfl, rfl, _, rfl, ite2 (fun e => ?_) (fun _ => fin)⟩
              have e := of_decide_eq_true e
              rw [h5] at e
              exact absurd e (by decide +kernel)
          · rw [decide_eq_false h5]
            refine iteF (iteF ⟨_, rfl, rfl, _, rfl, ite2 (fun _ => ?_) (fun _ => fin)⟩)
            refine ⟨_, rfl, _, rfl, j, _, l, rfl, J4, hG, by omega, fun r5 sts5 H5 nr5 h65 R5 J5 k5 => ?_⟩
            exact ⟨r5, sts5, rfl, h65, R5, k5 p _ npj hp4, W4.kp hx4 k5, R4.kp k5 hx4, J5.le (by omega), k24.trans k5⟩
      · rintro σ' H5 ⟨r', sts', rfl, h6', R5, hp5, W5, Rr5, J5, k5⟩
        refine ⟨_, rfl, .inl ⟨rfl, _, SqL.of hp5⟩, _, rfl, p, _, _, rfl, rfl, hp5, by rw [List.length_map, W5.len, hl2, sizeLine_eq]; omega, ?_⟩
        have kq : Kp p H5 (L2.upd H5 p (.lst (rs.map V.ref ++ [.ref r']))) := .upd
        refine ⟨_, _, _, _, rs ++ [r'], rws ++ [sts'], rfl, ?_, Rw.snoc (R5.kp kq hp5) h6' (W5.kp hp5 kq), by rw [List.length_append, hl2]; rfl, Rr5.kp kq hp5, ?_, ?_⟩
        · rw [upd_same, List.map_append]; rfl
        · obtain ⟨a', b', c', e1, e2⟩ := J5.le (show n + 400 + 500 * i + 500 ≤ n + 400 + 500 * (i + 1) by omega)
          exact ⟨a', b', c', by rw [upd_ne npj.symm]; exact e1, e2⟩
        · intro b o nb hb
          have nbp : b ≠ p := by rintro rfl; rw [np] at hb; cases hb
          rw [upd_ne nbp]; exact k5 b o nb hb
    · rintro σ H2 ⟨u4, u5, u6, u7, rs, rws, rfl, hp2, W2, hl2, R2, J2, k2⟩
      exact ⟨_, rfl, q p rs rws H2 np ⟨hp2, W2, hl2⟩ (J2.le (by omega)) k2⟩
end
end Pd

set_option maxHeartbeats 4000000
namespace Pd
open PySem PySem.Spec PyProof.Rows L2 SX
/-! ### what is written of doors -/
def headsL : List (List Nat) := [[112, 117, 116, 58, 32], [102, 105, 110, 100, 58, 32], [115, 116, 114, 105, 107, 101, 58, 32], [119, 105, 115, 104, 58, 32]]
theorem heads_S : (["put: ", "find: ", "strike: ", "wish: "] : List Str) = headsL.map S := by decide +kernel
def dlines (rws : List (List Stp)) : List (List Nat) := List.zipWith (· ++ ·) headsL (rws.map ftext)
def dtext (rws : List (List Stp)) : List Nat := TL.joinL [10] (dlines rws)
theorem nl_S : ("\n" : Str) = S [10] := by decide +kernel
/-- the doors' constant -/
structure CstD (K : PySem.W.Frag) (mg : Str → Option Value) : Prop where
  heads : ∃ Bd : Addr, mg "BEGINNINGS" = some (.ref Bd) ∧ ∀ H : Hp, SqT K H Bd ((headsL.map S).map V.str)
theorem walk_zipT {K : PySem.W.Frag} {a b : Addr} {xs ys : List V} {n : Nat} (hn : n = min xs.length ys.length) : Walk (RZ.ItzT K a b) n (fun H => SqT K H a xs ∧ SqT K H b ys) (YPair (fun i => xs[i]?) (fun i => ys[i]?)) := by
  subst hn
  refine ⟨fun i _ hi q => ?_, fun _ q => ⟨xs, ys, q.1, q.2, by omega⟩, fun i H v H' _ q y => ?_⟩
  · have h1 : i < xs.length := by omega
    have h2 : i < ys.length := by omega
    exact ⟨xs, ys, xs[i], ys[i], q.1, q.2, by simp [h1], by simp [h2]⟩
  · obtain ⟨T, x, z, h1, h2, h3, h4, h5⟩ := y
    exact ⟨T, x, z, h1, h2, h3, h4 xs q.1, h5 ys q.2⟩
theorem lines_len {rws : List (List Stp)} (h : ∀ sts ∈ rws, (∀ st ∈ sts, st.ok) ∧ sts.length ≤ 6) : ∀ x ∈ dlines rws, x.length ≤ 308 := by
  intro x hx
  unfold dlines at hx
  obtain ⟨i, hi, e⟩ := List.getElem_of_mem hx
  rw [List.getElem_zipWith] at e
  subst e
  have h1 : ∀ y ∈ headsL, y.length ≤ 8 := by decide
  have hi2 : i < (rws.map ftext).length := by
    rw [List.length_zipWith] at hi
    omega
  have h2 : (rws.map ftext)[i].length ≤ 300 := by
    rw [List.getElem_map]
    obtain ⟨a, b⟩ := h _ (List.getElem_mem (by simpa using hi2))
    exact ftext_len a b
  rw [List.length_append]
  have h3 := h1 _ (List.getElem_mem (show i < headsL.length by rw [List.length_zipWith] at hi; omega))
  omega
theorem lines_few (rws : List (List Stp)) : (dlines rws).length ≤ 4 := by
  unfold dlines
  rw [List.length_zipWith]
  exact Nat.min_le_left _ _
theorem line_get {rws : List (List Stp)} {i : Nat} {hd : List Nat} {sts : List Stp} (h1 : headsL[i]? = some hd) (h2 : rws[i]? = some sts) : (dlines rws)[i]? = some (hd ++ ftext sts) := by
  unfold dlines
  rw [List.getElem?_zipWith, h1, List.getElem?_map, h2]
  rfl
theorem lines_sum {rws : List (List Stp)} (h : ∀ sts ∈ rws, (∀ st ∈ sts, st.ok) ∧ sts.length ≤ 6) : (((dlines rws).map S).map (·.length)).sum + ((dlines rws).map S).length * ("\n" : Str).length ≤ 16777216 := by
  rw [sum_S, List.length_map]
  have h1 := sum_le (lines_len h)
  have h2 := lines_few rws
  have e : ("\n" : Str).length = 1 := by decide +kernel
  rw [e]
  omega
/-- foldings one by one -/
inductive Fds (K : PySem.W.Frag) (C : Addr) (H : Hp) : List Addr → List Addr → List (List Stp) → Prop where
  | nil : Fds K C H [] [] []
  | cons {o r : Addr} {sts : List Stp} {os rs : List Addr} {rws : List (List Stp)} (f : FoldAt K C H o r sts) (t : Fds K C H os rs rws) : Fds K C H (o :: os) (r :: rs) (sts :: rws)
theorem Fds.ext {K : PySem.W.Frag} {C : Addr} {H H' : Hp} (k : Ext H H') : ∀ {os rs : List Addr} {rws : List (List Stp)}, Fds K C H os rs rws → Fds K C H' os rs rws
  | _, _, _, .nil => .nil
  | _, _, _, .cons f t => .cons (f.ext k) (t.ext k)
theorem Fds.get {K : PySem.W.Frag} {C : Addr} {H : Hp} : ∀ {os rs : List Addr} {rws : List (List Stp)} {i : Nat} {o : Addr}, Fds K C H os rs rws → os[i]? = some o → ∃ r sts, rs[i]? = some r ∧ rws[i]? = some sts ∧ FoldAt K C H o r sts
  | _, _, _, _, _, .nil, e => by simp at e
  | _, _, _, 0, _, .cons f t, e => by
    simp at e; subst e
    exact ⟨_, _, by simp, by simp, f⟩
  | _, _, _, i + 1, _, .cons f t, e => by
    obtain ⟨r, sts, e1, e2, h⟩ := t.get (i := i) (by simpa using e)
    exact ⟨r, sts, by simpa using e1, by simpa using e2, h⟩
theorem Fds.good {K : PySem.W.Frag} {C : Addr} {H : Hp} : ∀ {os rs : List Addr} {rws : List (List Stp)}, Fds K C H os rs rws → ∀ sts ∈ rws, (∀ st ∈ sts, st.ok) ∧ sts.length ≤ 6
  | _, _, _, .nil, _, h => nomatch h
  | _, _, _, .cons f t, sts, h => by
    rcases List.mem_cons.mp h with rfl | h
    · exact ⟨f.2.1.ok, f.2.2⟩
    · exact t.good sts h
theorem DrAt.fds {K : PySem.W.Frag} {C CD : Addr} {H : Hp} {d o1 o2 o3 o4 r1 r2 r3 r4 : Addr} {s1 s2 s3 s4 : List Stp} (h : DrAt K C CD H d o1 o2 o3 o4 r1 r2 r3 r4 s1 s2 s3 s4) : Fds K C H [o1, o2, o3, o4] [r1, r2, r3, r4] [s1, s2, s3, s4] :=
  .cons h.f1 (.cons h.f2 (.cons h.f3 (.cons h.f4 .nil)))
theorem Rw.good {K : PySem.W.Frag} {H : Hp} : ∀ {rs : List Addr} {rws : List (List Stp)}, Rw K H rs rws → ∀ sts ∈ rws, (∀ st ∈ sts, st.ok) ∧ sts.length ≤ 6
  | _, _, .nil, _, h => nomatch h
  | _, _, .cons h l t, sts, hs => by
    rcases List.mem_cons.mp hs with rfl | hs
    · exact ⟨h.ok, l⟩
    · exact t.good sts hs
def spDText (K : PySem.W.Frag) (C CD : Addr) : Sp := fun vs H Q _ => ∃ (d o1 o2 o3 o4 r1 r2 r3 r4 : Addr) (s1 s2 s3 s4 : List Stp), vs = [.ref d] ∧ DrAt K C CD H d o1 o2 o3 o4 r1 r2 r3 r4 s1 s2 s3 s4 ∧ ∀ H', Ext H H' → Q (.str (S (dtext [s1, s2, s3, s4]))) H'
def spLDText (K : PySem.W.Frag) : Sp := fun vs H Q _ => ∃ (l : Addr) (rs : List Addr) (rws : List (List Stp)), vs = [.ref l] ∧ Four K H l rs rws ∧ ∀ H', Ext H H' → Q (.str (S (dtext rws))) H'
def spIs (K : PySem.W.Frag) (C CD : Addr) : Sp := fun vs H Q _ => ∃ (d l o1 o2 o3 o4 r1 r2 r3 r4 : Addr) (s1 s2 s3 s4 : List Stp), vs = [.ref d, .ref l] ∧ DrAt K C CD H d o1 o2 o3 o4 r1 r2 r3 r4 s1 s2 s3 s4 ∧ Four K H l [r1, r2, r3, r4] [s1, s2, s3, s4] ∧ ∀ H', Ext H H' → Q (.bl true) H'
theorem join_lines {K : PySem.W.Frag} {H : Hp} {D : Addr} {rws : List (List Stp)} {Q : VK} (h : H D = some (.lst (((dlines rws).map S).map V.str))) (g : ∀ sts ∈ rws, (∀ st ∈ sts, st.ok) ∧ sts.length ≤ 6) (q : Q (.str (S (dtext rws))) H) :
    ∃ a p, ∃ ys : List Str, V.str "\n" = .str a ∧ [V.ref D] = [.ref p] ∧ (SqL K H p (ys.map V.str) ∨ SqT K H p (ys.map V.str)) ∧ (ys.map (·.length)).sum + ys.length * a.length ≤ 16777216 ∧ Q (.str (Txt.join a ys)) H := by
  refine ⟨_, D, (dlines rws).map S, rfl, rfl, .inl (SqL.of h), lines_sum g, ?_⟩
  rw [nl_S, join_S]
  exact q
section
variable {P : Program} {w : World} {K : PySem.W.Frag} {mg : Str → Option Value} {base : Heap}
theorem ok_dtext {f Cf CD : Addr} {fd : FuncData} (F : Fun K "doors_text" "doors_text" sDoorsText f fd) (mz : mg "zip" = none) (Cd : CstD K mg) (Y : Drs P w K mg base CD) (W : Cl P w K mg base 3 "folding_text" (spFText K Cf)) : FnOk P w K mg base CX0 4 f fd ["doors"] (spDText K Cf CD) := by
  refine F.ok scDoorsText (fun vs H Q E h => ?_) (fun cdv A outer s H vs Q E hr h => ?_)
  · obtain ⟨d, o1, o2, o3, o4, r1, r2, r3, r4, s1, s2, s3, s4, rfl, _⟩ := h
    rfl
  · obtain ⟨d, o1, o2, o3, o4, r1, r2, r3, r4, s1, s2, s3, s4, rfl, hD, q⟩ := h
    have nd := scDoorsText.nd
    obtain ⟨Bd, mB, hB⟩ := Cd.heads
    obtain ⟨g1, fd1, m1, F1, b1⟩ := Y.put
    obtain ⟨g2, fd2, m2, F2, b2⟩ := Y.find
    obtain ⟨g3, fd3, m3, F3, b3⟩ := Y.strike
    obtain ⟨g4, fd4, m4, F4, b4⟩ := Y.wish
    have hr1 := hr.mono (show 1 ≤ 3 by decide)
    refine ⟨_, pss_cons (ps_set (i := 1) nd rfl (Or.inl rfl) (pe_tup (pa_cons (pe_meth0 (pv 0) Y.z.cl m1 F1 hr1 b1 .nil pass0) (pa_cons (pe_meth0 (pv 0) Y.z.cl m2 F2 hr1 b2 .nil pass0) (pa_cons (pe_meth0 (pv 0) Y.z.cl m3 F3 hr1 b3 .nil pass0) (pa_cons (pe_meth0 (pv 0) Y.z.cl m4 F4 hr1 b4 .nil pass0) pa_nil))))))
      (pss_one (ps_ret (pe_join pe_str (pe_lc (own := [("beginning", 2), ("folding", 3)]) (tt := tYes) rfl nd (RZ.pi_zipA (by rfl) mz (pa_cons (pe_glob (v := .ref Bd) rfl mB rfl) (pa_cons (pv 1) pa_nil))) (blkOk_by (N := ["doors", "foldings", "beginning", "folding"]) (sc := defScope sDoorsText) (by decide +kernel))
        (g := gTup K 2 (gCons (gName 2) (gCons (gName 3) gNil))) (fun _ _ _ _ _ => pg_tup (n := 2) rfl (pgs_cons (pg_name (i := 2) nd rfl (Or.inl rfl)) (pgs_cons (pg_name (i := 3) nd rfl (Or.inl rfl)) pgs_nil))) (fun _ _ _ _ _ => pts_nil)
        (fun _ _ _ _ _ => pe_op op_add_str (pv 2) (pe_cl W hr (by decide) rfl (pa_cons (pv 3) pa_nil))))))), ?_⟩
    obtain ⟨dx, e⟩ := hD.ins
    refine ⟨_, rfl, d, dx, _, rfl, e, rfl, d, dx, _, _, rfl, e, rfl, ?_⟩
    refine ⟨_, rfl, d, dx, _, rfl, e, rfl, d, dx, _, _, rfl, e, rfl, ?_⟩
    refine ⟨_, rfl, d, dx, _, rfl, e, rfl, d, dx, _, _, rfl, e, rfl, ?_⟩
    refine ⟨_, rfl, d, dx, _, rfl, e, rfl, d, dx, _, _, rfl, e, rfl, ?_⟩
    refine ⟨by show 4 ≤ sizeLine; decide, fun t ht => ?_⟩
    have kt : Ext H (L2.upd H t (.tup [.ref o1, .ref o2, .ref o3, .ref o4])) := Ext.refl.new ht
    have et : (L2.upd H t (.tup [.ref o1, .ref o2, .ref o3, .ref o4])) t = some (.tup [.ref o1, .ref o2, .ref o3, .ref o4]) := upd_same
    generalize L2.upd H t (.tup [V.ref o1, V.ref o2, V.ref o3, V.ref o4]) = H1 at kt et
    have f1 := hD.fds.ext kt
    refine ⟨⟨_, rfl⟩, _, rfl, Bd, t, _, _, rfl, .inr ⟨hB H1, SqT.of et, fun D hDn => ?_⟩⟩
    refine lc_it (walk_zipT (n := 4) (xs := (headsL.map S).map V.str) (ys := [.ref o1, .ref o2, .ref o3, .ref o4]) (by rw [List.length_map, List.length_map]; rfl)) (fun i H' => H' D = some (.lst ((((dlines [s1, s2, s3, s4]).take i).map S).map V.str)) ∧ Ext H1 H')
      ⟨upd_same, Ext.refl.new hDn⟩ (fun i H' _ z => ⟨hB H', SqT.of (z.2 t _ et)⟩) ?_ ?_
    · rintro i v H2 H3 hi ⟨h2, k2⟩ ⟨T', x, y, rfl, hT, rfl, hx, hy⟩
      have k3 : Ext H1 (L2.upd H2 T' (.tup [x, y])) := k2.new' hT
      have hx' : ((headsL.map S).map V.str)[i]? = some x := hx
      rw [List.getElem?_map, List.getElem?_map] at hx'
      obtain ⟨z, hz, rfl⟩ := Option.map_eq_some_iff.mp hx'
      obtain ⟨hd, hh, rfl⟩ := Option.map_eq_some_iff.mp hz
      have hy' : ([o1, o2, o3, o4].map V.ref)[i]? = some y := hy
      rw [List.getElem?_map] at hy'
      obtain ⟨o, ho, rfl⟩ := Option.map_eq_some_iff.mp hy'
      obtain ⟨r, sts, _, hs, F3'⟩ := (f1.ext k3).get ho
      refine ⟨T', _, rfl, SqT.of upd_same, rfl, _, _, rfl, _, _, rfl, rfl, rfl, ?_⟩
      refine ⟨_, rfl, _, rfl, o, r, sts, rfl, F3', fun H4 k4 => ⟨_, _, rfl, rfl, ?_, ?_⟩⟩
      · rw [S_len, S_len, sizeLine_eq]
        have h8 : ∀ y ∈ headsL, y.length ≤ 8 := by decide
        have h9 := h8 hd (List.mem_of_getElem? hh)
        have h10 := ftext_len F3'.2.1.ok F3'.2.2
        omega
      · rw [S_cat]
        have h4 : H4 D = some (.lst ((((dlines [s1, s2, s3, s4]).take i).map S).map V.str)) := k4 D _ (by rw [upd_ne (ne_of_none h2 hT)]; exact h2)
        refine ⟨_, h4, ?_, ?_, (k3.trans k4).new hDn⟩
        · rw [List.length_map, List.length_map, sizeLine_eq]
          have := List.length_take_le' i (dlines [s1, s2, s3, s4])
          have := lines_few [s1, s2, s3, s4]
          omega
        · rw [upd_same, List.take_succ, line_get hh hs, List.map_append, List.map_append]
          rfl
    · rintro H2 ⟨h2, k2⟩
      rw [List.take_of_length_le (lines_few _)] at h2
      exact join_lines h2 f1.good (q H2 (kt.trans k2))
theorem ok_ldtext {f : Addr} {fd : FuncData} (F : Fun K "_law_doors_text" "_law_doors_text" sLawDoorsText f fd) (T : Nms mg) (W : Cl P w K mg base 2 "_law_folding_text" (spLText K)) : FnOk P w K mg base CX0 3 f fd ["four"] (spLDText K) := by
  refine F.ok scLawDoorsText (fun vs H Q E h => ?_) (fun cdv A outer s H vs Q E hr h => ?_)
  · obtain ⟨l, rs, rws, rfl, _⟩ := h
    rfl
  · obtain ⟨l, rs, rws, rfl, ⟨hl, hW, h4⟩, q⟩ := h
    have nd := scLawDoorsText.nd
    refine ⟨_, pss_cons (ps_set (i := 1) nd rfl (Or.inr rfl) (pe_lst (pa_cons pe_str (pa_cons pe_str (pa_cons pe_str (pa_cons pe_str pa_nil))))))
      (pss_one (ps_ret (pe_join pe_str (pe_lc (own := [("k", 2)]) (g := gName 2) (tt := tYes) rfl nd (pi_range1 rfl T.range (pa_cons pe_int pa_nil)) (blkOk_by (N := ["four", "heads", "k"]) (sc := defScope sLawDoorsText) (by decide +kernel)) (fun _ _ _ _ _ => pg_name (i := 2) nd rfl (Or.inl rfl)) (fun _ _ _ _ _ => pts_nil)
        (fun _ _ _ _ _ => pe_op op_add_str (pe_ix (ix_listK (K := K) rfl) (pv 1) (pv 2) (fun _ _ => rfl)) (pe_cl W hr (by decide) rfl (pa_cons (pe_ix (ix_listK (K := K) rfl) (pv 0) (pv 2) (fun _ _ => rfl)) pa_nil))))))), ?_⟩
    refine ⟨by show 4 ≤ sizeLine; decide, fun t ht => ?_⟩
    have e4 : ([.str "put: ", .str "find: ", .str "strike: ", .str "wish: "] : List V) = (headsL.map S).map V.str := by rw [← heads_S]; rfl
    rw [e4]
    have kt : Ext H (L2.upd H t (.lst ((headsL.map S).map V.str))) := Ext.refl.new ht
    have et : (L2.upd H t (.lst ((headsL.map S).map V.str))) t = some (.lst ((headsL.map S).map V.str)) := upd_same
    generalize L2.upd H t (.lst ((headsL.map S).map V.str)) = H1 at kt et
    have W1 := hW.ext kt
    have l1 := kt l _ hl
    refine ⟨⟨_, rfl⟩, 4, rfl, by decide, by decide, fun D hDn => ?_⟩
    refine lc_it (walk_range (lo := 0) (n := 4)) (fun i H' => H' D = some (.lst ((((dlines rws).take i).map S).map V.str)) ∧ Ext H1 H') ⟨upd_same, Ext.refl.new hDn⟩ (fun _ _ _ _ => trivial) ?_ ?_
    · rintro i x H2 H3 hi ⟨h2, k2⟩ ⟨rfl, rfl⟩
      have ei : (0 : Int) + (i : Nat) = ((i : Nat) : Int) := by omega
      have hh : headsL[i]? = some headsL[i] := List.getElem?_eq_getElem (show i < 4 from hi)
      have hr' : i < rs.length := by rw [hW.len, h4]; exact hi
      have ho : rs[i]? = some rs[i] := List.getElem?_eq_getElem hr'
      obtain ⟨sts, hs, hR, h6⟩ := (W1.ext k2).get ho
      refine ⟨rfl, _, rfl, _, rfl, t, _, i, .str (S headsL[i]), rfl, congrArg V.int ei, SqL.of (k2 t _ et), atI_nat (by rw [List.getElem?_map, List.getElem?_map, hh]; rfl), ?_⟩
      refine ⟨_, rfl, _, rfl, l, _, i, .ref rs[i], rfl, congrArg V.int ei, SqL.of (k2 l _ l1), atI_nat (by rw [List.getElem?_map, ho]; rfl), ?_⟩
      refine ⟨rs[i], sts, rfl, hR, h6, fun H4 k4 => ⟨_, _, rfl, rfl, ?_, ?_⟩⟩
      · rw [S_len, S_len, sizeLine_eq]
        have h8 : ∀ y ∈ headsL, y.length ≤ 8 := by decide
        have h9 := h8 headsL[i] (List.mem_of_getElem? hh)
        have h10 := ftext_len hR.ok h6
        omega
      · rw [S_cat]
        refine ⟨_, k4 D _ h2, ?_, ?_, (k2.trans k4).new hDn⟩
        · rw [List.length_map, List.length_map, sizeLine_eq]
          have := List.length_take_le' i (dlines rws)
          have := lines_few rws
          omega
        · rw [upd_same, List.take_succ, line_get hh hs, List.map_append, List.map_append]
          rfl
    · rintro H2 ⟨h2, k2⟩
      rw [List.take_of_length_le (lines_few _)] at h2
      exact join_lines h2 hW.good (q H2 (kt.trans k2))
end
end Pd

set_option maxHeartbeats 4000000
namespace Pd
open PySem PySem.Spec PyProof.Rows L2 SX
/-! ### aa -> a, six times over, is once -/
def onceP (a : Nat) : Nat → List Nat → List Nat
  | _, [] => []
  | p, c :: t => (if c ≠ a ∨ p ≠ a then [c] else []) ++ onceP a c t
def halve (a : Nat) : List Nat → List Nat
  | [] => []
  | [x] => [x]
  | x :: y :: r => if x = a ∧ y = a then a :: halve a r else x :: halve a (y :: r)
termination_by l => l.length
def lastOf : Nat → List Nat → Nat
  | p, [] => p
  | _, c :: t => lastOf c t
theorem onceP_snoc {a c : Nat} : ∀ (u : List Nat) (p : Nat), onceP a p (u ++ [c]) = onceP a p u ++ (if c ≠ a ∨ lastOf p u ≠ a then [c] else [])
  | [], p => by
    show (if c ≠ a ∨ p ≠ a then [c] else []) ++ [] = [] ++ (if c ≠ a ∨ p ≠ a then [c] else [])
    rw [List.append_nil, List.nil_append]
  | x :: u, p => by
    show _ ++ onceP a x (u ++ [c]) = (_ ++ onceP a x u) ++ _
    rw [onceP_snoc u x, List.append_assoc]; rfl
theorem lastOf_take : ∀ (l : List Nat) (p i : Nat), i < l.length → lastOf p (l.take (i + 1)) = l.getD i 0
  | [], _, _, h => absurd h (Nat.not_lt_zero _)
  | x :: l, p, 0, _ => by simp [lastOf]
  | x :: l, p, i + 1, h => by
    show lastOf x (l.take (i + 1)) = _
    rw [lastOf_take l x i (by simpa using h)]
    simp
theorem onceN_P {a p : Nat} (hp : p ≠ a) (l : List Nat) : ∀ i : Nat, i ≤ l.length → onceN a l i = onceP a p (l.take i)
  | 0, _ => by simp [onceN, onceP]
  | i + 1, h => by
    have hi : i < l.length := h
    have e : l.take (i + 1) = l.take i ++ [l.getD i 0] := by
      rw [List.take_add_one, List.getElem?_eq_getElem hi, List.getD_eq_getElem?_getD, List.getElem?_eq_getElem hi]; rfl
    rw [onceN, onceN_P hp l i (by omega), e, onceP_snoc]
    congr 1
    have key : (keepAt a l i = true) ↔ (l.getD i 0 ≠ a ∨ lastOf p (l.take i) ≠ a) := by
      cases i with
      | zero => simp [keepAt, lastOf, hp]
      | succ j =>
        rw [lastOf_take l p j (by omega)]
        simp [keepAt]
    by_cases hk : keepAt a l i = true
    · rw [if_pos hk, if_pos (key.mp hk)]
    · rw [if_neg hk, if_neg (fun z => hk (key.mpr z))]
theorem onceL_P {a p : Nat} (hp : p ≠ a) (l : List Nat) : onceL a l = onceP a p l := by
  unfold onceL
  rw [onceN_P hp l _ (Nat.le_refl _), List.take_length]
theorem halve_pair (a : Nat) (r : List Nat) : halve a (a :: a :: r) = a :: halve a r := by
  rw [halve, if_pos ⟨rfl, rfl⟩]
theorem halve_miss {a x y : Nat} {r : List Nat} (h : ¬ (x = a ∧ y = a)) : halve a (x :: y :: r) = x :: halve a (y :: r) := by
  rw [halve, if_neg h]
theorem onceP_halve (a : Nat) : ∀ (n : Nat) (l : List Nat) (p : Nat), l.length ≤ n → onceP a p (halve a l) = onceP a p l
  | _, [], _, _ => by rw [halve]
  | _, [x], _, _ => by rw [halve]
  | 0, _ :: _ :: _, _, h => by simp at h
  | n + 1, x :: y :: r, p, h => by
    have h' : r.length + 1 ≤ n := by simpa using h
    by_cases e : x = a ∧ y = a
    · obtain ⟨e1, e2⟩ := e
      rw [e1, e2]
      rw [halve_pair]
      show _ ++ onceP a a (halve a r) = _ ++ (_ ++ onceP a a r)
      rw [onceP_halve a n r a (by omega)]
      simp
    · rw [halve_miss e]
      show _ ++ onceP a x (halve a (y :: r)) = _ ++ onceP a x (y :: r)
      rw [onceP_halve a n (y :: r) x (by simpa using h')]
theorem onceP_first {a p : Nat} (hp : p ≠ a) (l : List Nat) : (onceP a p l).length ≤ 1 + (onceP a a l).length := by
  cases l with
  | nil => simp [onceP]
  | cons c t =>
    show ((if c ≠ a ∨ p ≠ a then [c] else []) ++ onceP a c t).length ≤ 1 + ((if c ≠ a ∨ a ≠ a then [c] else []) ++ onceP a c t).length
    rw [if_pos (.inr hp), List.length_append, List.length_append]
    show 1 + _ ≤ _
    omega
theorem halve_len {a p : Nat} (hp : p ≠ a) : ∀ (n : Nat) (l : List Nat), l.length ≤ n → 2 * (halve a l).length ≤ l.length + (onceP a p l).length
  | _, [], _ => by rw [halve]; simp
  | _, [x], _ => by
    rw [halve]
    show 2 * 1 ≤ 1 + ((if x ≠ a ∨ p ≠ a then [x] else []) ++ []).length
    rw [if_pos (.inr hp)]; show 2 ≤ 1 + 1; decide
  | 0, _ :: _ :: _, h => by simp at h
  | n + 1, x :: y :: r, h => by
    have h' : r.length + 1 ≤ n := by simpa using h
    by_cases e : x = a ∧ y = a
    · obtain ⟨e1, e2⟩ := e
      rw [e1, e2]
      have ih := halve_len hp n r (by omega)
      have f := onceP_first hp r
      rw [halve_pair]
      have e2 : onceP a p (a :: a :: r) = a :: onceP a a r := by
        show (if a ≠ a ∨ p ≠ a then [a] else []) ++ ((if a ≠ a ∨ a ≠ a then [a] else []) ++ onceP a a r) = _
        rw [if_pos (.inr hp), if_neg (by simp)]; rfl
      rw [e2]
      simp only [List.length_cons]
      omega
    · have ih := halve_len hp n (y :: r) (by simpa using h')
      rw [halve_miss e]
      have e2 : onceP a p (x :: y :: r) = x :: onceP a p (y :: r) := by
        show (if x ≠ a ∨ p ≠ a then [x] else []) ++ ((if y ≠ a ∨ x ≠ a then [y] else []) ++ onceP a y r) = x :: ((if y ≠ a ∨ p ≠ a then [y] else []) ++ onceP a y r)
        have hyx : y ≠ a ∨ x ≠ a := by
          by_cases hx : x = a
          · exact .inl fun hy => e ⟨hx, hy⟩
          · exact .inr hx
        rw [if_pos (.inr hp), if_pos hyx, if_pos (.inr hp)]; rfl
      rw [e2]
      simp only [List.length_cons] at ih ⊢
      omega
theorem onceP_le (a : Nat) : ∀ (l : List Nat) (p : Nat), (onceP a p l).length ≤ l.length
  | [], _ => by simp [onceP]
  | c :: t, p => by
    have := onceP_le a t c
    show ((if c ≠ a ∨ p ≠ a then [c] else []) ++ onceP a c t).length ≤ t.length + 1
    rw [List.length_append]
    split
    · show 1 + _ ≤ _; omega
    · show 0 + _ ≤ _; omega
theorem onceP_same (a : Nat) : ∀ (l : List Nat) (p : Nat), (onceP a p l).length = l.length → onceP a p l = l
  | [], _, _ => rfl
  | c :: t, p, h => by
    have z : ((if c ≠ a ∨ p ≠ a then [c] else []) ++ onceP a c t).length = t.length + 1 := h
    have le := onceP_le a t c
    rw [List.length_append] at z
    show (if c ≠ a ∨ p ≠ a then [c] else []) ++ onceP a c t = c :: t
    by_cases k : c ≠ a ∨ p ≠ a
    · rw [if_pos k] at z ⊢
      have := onceP_same a t c (by show _ = _; have : ([c] : List Nat).length = 1 := rfl; omega)
      rw [this]; rfl
    · rw [if_neg k] at z
      have : ([] : List Nat).length = 0 := rfl
      omega
def halves (a : Nat) (l : List Nat) : Nat → List Nat
  | 0 => l
  | i + 1 => halve a (halves a l i)
theorem halves_once {a p : Nat} (hp : p ≠ a) (l : List Nat) : ∀ i : Nat, onceP a p (halves a l i) = onceP a p l
  | 0 => rfl
  | i + 1 => by
    show onceP a p (halve a (halves a l i)) = _
    rw [onceP_halve a _ _ p (Nat.le_refl _), halves_once hp l i]
theorem halves_len {a p : Nat} (hp : p ≠ a) (l : List Nat) : ∀ i : Nat, (halves a l i).length - (onceP a p l).length ≤ (l.length - (onceP a p l).length) / 2 ^ i
  | 0 => by simp [halves]
  | i + 1 => by
    have ih := halves_len hp l i
    have s := halve_len hp _ (halves a l i) (Nat.le_refl _)
    rw [halves_once hp l i] at s
    have e : (halve a (halves a l i)).length - (onceP a p l).length ≤ ((halves a l i).length - (onceP a p l).length) / 2 := by omega
    show (halve a (halves a l i)).length - _ ≤ _
    rw [Nat.pow_succ, ← Nat.div_div_eq_div_mul]
    exact Nat.le_trans e (Nat.div_le_div_right ih)
theorem halves_six {a : Nat} {l : List Nat} (h : l.length ≤ 60) : halves a l 6 = onceL a l := by
  have hp : a + 1 ≠ a := by omega
  rw [onceL_P hp l]
  have z := halves_len hp l 6
  have z0 : (l.length - (onceP a (a + 1) l).length) / 2 ^ 6 = 0 := Nat.div_eq_of_lt (by show _ < 64; omega)
  rw [z0] at z
  have o := halves_once hp l 6
  have le := onceP_le a (halves a l 6) (a + 1)
  rw [o] at le
  have s := onceP_same a (halves a l 6) (a + 1) (by rw [o]; omega)
  rw [← s, o]
theorem halve_S (a : Nat) : ∀ (n : Nat) (l : List Nat), l.length ≤ n → PySem.StrLaws.replL [a, a] [a] l = halve a l
  | _, [], _ => by rw [PySem.StrLaws.replL_nil, halve]
  | _, [x], _ => by
    rw [PySem.StrLaws.replL_miss (by simp), PySem.StrLaws.replL_nil, halve]
  | 0, _ :: _ :: _, h => by simp at h
  | n + 1, x :: y :: r, h => by
    have h' : r.length + 1 ≤ n := by simpa using h
    by_cases e : x = a ∧ y = a
    · obtain ⟨e1, e2⟩ := e
      rw [e1, e2]
      rw [PySem.StrLaws.replL_hit (by simp) (by simp), halve_pair]
      show a :: PySem.StrLaws.replL [a, a] [a] r = _
      rw [halve_S a n r (by omega)]
    · rw [PySem.StrLaws.replL_miss (by simpa using e), halve_miss e, halve_S a n (y :: r) (by simpa using h')]
theorem replace_halve (a : Nat) (l : List Nat) : Txt.replace (S l) (sg a ++ sg a) (sg a) = S (halve a l) := by
  refine TL.ext_tl ?_
  have e0 : (sg a ++ sg a) = S [a, a] := by rw [sg_S, S_cat]; rfl
  rw [e0]
  have e := PySem.StrLaws.replace_list (x := S l) (y := S [a, a]) (z := sg a) (by rw [S_len]; show 1 ≤ 2; decide)
  refine e.trans ?_
  exact halve_S a _ l (Nat.le_refl _)
theorem halve_mem {a c : Nat} : ∀ (n : Nat) (l : List Nat), l.length ≤ n → c ∈ halve a l → c ∈ l
  | _, [], _, h => by rw [halve] at h; exact h
  | _, [x], _, h => by rw [halve] at h; exact h
  | 0, _ :: _ :: _, h, _ => by simp at h
  | n + 1, x :: y :: r, h, m => by
    have h' : r.length + 1 ≤ n := by simpa using h
    by_cases e : x = a ∧ y = a
    · obtain ⟨e1, e2⟩ := e
      rw [e1, e2] at m ⊢
      rw [halve_pair] at m
      rcases List.mem_cons.mp m with rfl | m
      · exact List.mem_cons_self ..
      · exact List.mem_cons_of_mem _ (List.mem_cons_of_mem _ (halve_mem n r (by omega) m))
    · rw [halve_miss e] at m
      rcases List.mem_cons.mp m with rfl | m
      · exact List.mem_cons_self ..
      · exact List.mem_cons_of_mem _ (halve_mem n (y :: r) (by simpa using h') m)
theorem halve_good {a : Nat} {l : List Nat} (h : Good l) : Good (halve a l) := by
  have hp : a + 1 ≠ a := by omega
  have s := halve_len hp _ l (Nat.le_refl _)
  have le := onceP_le a l (a + 1)
  exact ⟨fun c hc => h.1 c (halve_mem _ l (Nat.le_refl _) hc), by have := h.2; omega⟩
end Pd

set_option maxHeartbeats 4000000
namespace Pd
open PySem PySem.Spec PyProof.Rows L2 SX
/-! ### while aa in l: aa -> a -/
def pairB (a : Nat) : List Nat → Bool
  | [] => false
  | [_] => false
  | x :: y :: r => (decide (x = a) && decide (y = a)) || pairB a (y :: r)
theorem halve_le (a : Nat) : ∀ (n : Nat) (l : List Nat), l.length ≤ n → (halve a l).length ≤ l.length
  | _, [], _ => by rw [halve]; exact Nat.le_refl _
  | _, [x], _ => by rw [halve]; exact Nat.le_refl _
  | 0, _ :: _ :: _, h => by simp at h
  | n + 1, x :: y :: r, h => by
    have h' : r.length + 1 ≤ n := by simpa using h
    by_cases e : x = a ∧ y = a
    · obtain ⟨e1, e2⟩ := e
      rw [e1, e2, halve_pair]
      have := halve_le a n r (by omega)
      simp only [List.length_cons]
      omega
    · rw [halve_miss e]
      have := halve_le a n (y :: r) (by simpa using h')
      simp only [List.length_cons] at this ⊢
      omega
theorem halve_lt (a : Nat) : ∀ (n : Nat) (l : List Nat), l.length ≤ n → pairB a l = true → (halve a l).length < l.length
  | _, [], _, p => by cases p
  | _, [x], _, p => by cases p
  | 0, _ :: _ :: _, h, _ => by simp at h
  | n + 1, x :: y :: r, h, p => by
    have h' : r.length + 1 ≤ n := by simpa using h
    by_cases e : x = a ∧ y = a
    · obtain ⟨e1, e2⟩ := e
      rw [e1, e2, halve_pair]
      have := halve_le a n r (by omega)
      simp only [List.length_cons]
      omega
    · rw [halve_miss e]
      have p' : pairB a (y :: r) = true := by
        have p : ((decide (x = a) && decide (y = a)) || pairB a (y :: r)) = true := p
        rcases (Bool.or_eq_true _ _).mp p with q | q
        · obtain ⟨q1, q2⟩ := (Bool.and_eq_true _ _).mp q
          exact absurd ⟨of_decide_eq_true q1, of_decide_eq_true q2⟩ e
        · exact q
      have := halve_lt a n (y :: r) (by simpa using h') p'
      simp only [List.length_cons] at this ⊢
      omega
/-- no two behind one another: nothing is left out -/
theorem onceP_no (a : Nat) : ∀ (l : List Nat) (p : Nat), pairB a l = false → (p ≠ a ∨ ∀ x r, l = x :: r → x ≠ a) → onceP a p l = l
  | [], _, _, _ => rfl
  | x :: r, p, h, hp => by
    have e : x ≠ a ∨ p ≠ a := by
      rcases hp with hp | hp
      · exact .inr hp
      · exact .inl (hp x r rfl)
    show (if x ≠ a ∨ p ≠ a then [x] else []) ++ onceP a x r = x :: r
    rw [if_pos e, onceP_no a r x ?_ ?_]
    · rfl
    · cases r with
      | nil => rfl
      | cons y t =>
        have h : ((decide (x = a) && decide (y = a)) || pairB a (y :: t)) = false := h
        exact ((Bool.or_eq_false_iff).mp h).2
    · by_cases hx : x = a
      · refine .inr fun y t ey hy => ?_
        subst ey
        have h : ((decide (x = a) && decide (y = a)) || pairB a (y :: t)) = false := h
        rw [decide_eq_true hx, decide_eq_true hy] at h
        cases h
      · exact .inl hx
/-- the end of the while: what `once` makes -/
theorem once_end {a p : Nat} (hp : p ≠ a) {l l0 : List Nat} (h : onceP a p l = onceP a p l0) (n : pairB a l = false) : l = onceL a l0 := by
  rw [onceL_P hp, ← h, onceP_no a l p n (.inl hp)]
end Pd

set_option maxHeartbeats 4000000
namespace Pd
open PySem PySem.Spec PyProof.Rows L2 SX
/-! ### the third family of drawing defs -/
section
variable {P : Program} {w : World} {K : PySem.W.Frag} {mg : Str → Option Value} {base : Heap}
theorem p6' : (10 : Int) ^ (6 : Int).toNat = 1000000 := by decide +kernel
end
/-- five signs, in a list whose tokens are known and below b -/
structure FewAt (b : Nat) (H : Hp) (a : Addr) (gs : List Nat) : Prop where
  at_ : TxtsB b H a (gs.map sg)
  len : gs.length = 5
  ok : ∀ c ∈ gs, c ∈ CH
theorem FewAt.same {b : Nat} {H H' : Hp} {a : Addr} {gs : List Nat} (h : FewAt b H a gs) (e : H' a = H a) : FewAt b H' a gs := ⟨h.at_.same e, h.len, h.ok⟩
theorem FewAt.is {b : Nat} {H : Hp} {a : Addr} {gs : List Nat} (h : FewAt b H a gs) : ∃ o, H a = some (.frz o (.lst ((gs.map sg).map V.str))) := by
  obtain ⟨its, n, m, k, e, _⟩ := h.at_
  exact ⟨_, e⟩
theorem FewAt.ext {b : Nat} {H H' : Hp} {a : Addr} {gs : List Nat} (h : FewAt b H a gs) (k : Ext H H') : FewAt b H' a gs := by
  obtain ⟨o, e⟩ := h.is
  exact h.same ((k a _ e).trans e.symm)
theorem FewAt.ne {b : Nat} {H : Hp} {j a : Addr} {gs : List Nat} {xs : List V} (h : FewAt b H a gs) (hj : H j = some (.lst xs)) : a ≠ j := by
  obtain ⟨o, e⟩ := h.is
  rintro rfl; rw [e] at hj; cases hj
theorem FewAt.kp {b : Nat} {H H' : Hp} {j a : Addr} {gs : List Nat} {xs : List V} (h : FewAt b H a gs) (k : Kp j H H') (hj : H j = some (.lst xs)) : FewAt b H' a gs := by
  obtain ⟨o, e⟩ := h.is
  exact h.same ((k a _ (h.ne hj) e).trans e.symm)
theorem FewAt.item {b : Nat} {H : Hp} {a : Addr} {gs : List Nat} (h : FewAt b H a gs) {r : Int} (h0 : 0 ≤ r) (h1 : r < 5) : ∃ c ∈ CH, (gs.map sg)[r.toNat]? = some (sg c) := by
  have e : r.toNat < gs.length := by rw [h.len]; omega
  exact ⟨gs[r.toNat], h.ok _ (List.getElem_mem e), by simp [e]⟩
theorem FewAt.item' {b : Nat} {H : Hp} {a : Addr} {gs : List Nat} (h : FewAt b H a gs) {r : Int} (h0 : 0 ≤ r) (h1 : r < 5) : ∃ c ∈ CH, atI ((gs.map sg).map V.str) r = some (.str (sg c)) := by
  obtain ⟨c, hc, e⟩ := h.item h0 h1
  refine ⟨c, hc, ?_⟩
  have z := atI_nat (xs := (gs.map sg).map V.str) (j := r.toNat) (v := .str (sg c)) (by rw [List.getElem?_map, e]; rfl)
  have e2 : ((r.toNat : Nat) : Int) = r := by omega
  rw [e2] at z
  exact z
theorem FewAt.len' {b : Nat} {H : Hp} {a : Addr} {gs : List Nat} (h : FewAt b H a gs) : (((gs.map sg).map V.str).length : Int) = 5 := by
  rw [List.length_map, List.length_map, h.len]; rfl
theorem FewAt.seq {K : PySem.W.Frag} {b : Nat} {H : Hp} {a : Addr} {gs : List Nat} (h : FewAt b H a gs) : SqL K H a ((gs.map sg).map V.str) := h.at_.txts.seq
/-- a step whose text, if it is one of once, has a token below b -/
def StpB (b : Nat) (H : Hp) (p : Addr) (st : Stp) : Prop := StpAt H p st ∧ ∀ a, st = .once a → OnceB b H p (sg a)
theorem StpB.same {b : Nat} {H H' : Hp} {p : Addr} {st : Stp} (h : StpB b H p st) (e : ∀ o, H p = Option.some o → H' p = Option.some o) : StpB b H' p st :=
  ⟨h.1.same e, fun a ea => by
    obtain ⟨n, t0, t, e1, r⟩ := h.2 a ea
    exact ⟨n, t0, t, e _ e1, r⟩⟩
theorem StpB.ext {b : Nat} {H H' : Hp} {p : Addr} {st : Stp} (h : StpB b H p st) (k : Ext H H') : StpB b H' p st := h.same fun o x => k p o x
theorem StpB.kp {b : Nat} {H H' : Hp} {j p : Addr} {st : Stp} {xs : List V} (h : StpB b H p st) (k : Kp j H H') (hj : H j = Option.some (.lst xs)) : StpB b H' p st := h.same fun o x => k p o (by
  rintro rfl
  obtain ⟨o', x', ne⟩ := h.1.some
  rw [hj] at x'; cases x'
  exact ne _ rfl) x
inductive AlB (b : Nat) (H : Hp) : List Addr → List Stp → Prop where
  | nil : AlB b H [] []
  | cons {p : Addr} {st : Stp} {ps : List Addr} {sts : List Stp} (h : StpB b H p st) (ok : st.ok) (r : AlB b H ps sts) : AlB b H (p :: ps) (st :: sts)
section
variable {b : Nat} {H H' : Hp}
theorem AlB.al : ∀ {ps : List Addr} {sts : List Stp}, AlB b H ps sts → Al H ps sts
  | _, _, .nil => .nil
  | _, _, .cons h ok r => .cons h.1 ok r.al
theorem AlB.ext (k : Ext H H') : ∀ {ps : List Addr} {sts : List Stp}, AlB b H ps sts → AlB b H' ps sts
  | _, _, .nil => .nil
  | _, _, .cons h ok r => .cons (h.ext k) ok (r.ext k)
theorem AlB.kp {j : Addr} {xs : List V} (k : Kp j H H') (hj : H j = some (.lst xs)) : ∀ {ps : List Addr} {sts : List Stp}, AlB b H ps sts → AlB b H' ps sts
  | _, _, .nil => .nil
  | _, _, .cons h ok r => .cons (h.kp k hj) ok (r.kp k hj)
theorem AlB.take : ∀ {ps : List Addr} {sts : List Stp} (k : Nat), AlB b H ps sts → AlB b H (ps.take k) (sts.take k)
  | _, _, 0, _ => by rw [List.take_zero, List.take_zero]; exact .nil
  | _, _, k + 1, .nil => .nil
  | _, _, k + 1, .cons h ok r => .cons h ok (r.take k)
theorem AlB.drop : ∀ {ps : List Addr} {sts : List Stp} (k : Nat), AlB b H ps sts → AlB b H (ps.drop k) (sts.drop k)
  | _, _, 0, h => h
  | _, _, k + 1, .nil => .nil
  | _, _, k + 1, .cons h ok r => r.drop k
theorem AlB.append : ∀ {ps qs : List Addr} {sts tts : List Stp}, AlB b H ps sts → AlB b H qs tts → AlB b H (ps ++ qs) (sts ++ tts)
  | _, _, _, _, .nil, h => h
  | _, _, _, _, .cons h ok r, q => .cons h ok (r.append q)
theorem AlB.get : ∀ {ps : List Addr} {sts : List Stp} {i : Nat} {p : Addr}, AlB b H ps sts → ps[i]? = some p → ∃ st, sts[i]? = some st ∧ StpB b H p st ∧ st.ok
  | _, _, _, _, .nil, e => by simp at e
  | _, _, 0, _, .cons h ok r, e => by
    simp at e; subst e
    exact ⟨_, by simp, h, ok⟩
  | _, _, i + 1, _, .cons h ok r, e => by
    obtain ⟨st, e1, h1⟩ := r.get (i := i) (by simpa using e)
    exact ⟨st, by simpa using e1, h1⟩
end
def RowB (K : PySem.W.Frag) (b : Nat) (H : Hp) (r : Addr) (sts : List Stp) : Prop := ∃ ps : List Addr, SqT K H r (ps.map V.ref) ∧ AlB b H ps sts
section
variable {K : PySem.W.Frag} {b : Nat} {H H' : Hp} {r t : Addr} {sts s1 s2 : List Stp}
theorem RowB.row (h : RowB K b H r sts) : RowAt K H r sts := by
  obtain ⟨ps, e, a⟩ := h
  exact ⟨ps, e, a.al⟩
theorem RowB.ext (h : RowB K b H r sts) (k : Ext H H') : RowB K b H' r sts := by
  obtain ⟨ps, e, a⟩ := h
  exact ⟨ps, sqT_keep e (fun o x => k r o x), a.ext k⟩
theorem RowB.kp {j : Addr} {xs : List V} (h : RowB K b H r sts) (k : Kp j H H') (hj : H j = some (.lst xs)) : RowB K b H' r sts := by
  obtain ⟨ps, e, a⟩ := h
  exact ⟨ps, sqT_noLst e k hj, a.kp k hj⟩
theorem RowB.ok (h : RowB K b H r sts) : ∀ st ∈ sts, st.ok := by
  obtain ⟨ps, _, a⟩ := h
  exact a.al.ok
theorem rowB_take {σ : L2.St} {k : Int} {Q : VK} (hR : RowB K b H r sts) (h0 : 0 ≤ k) (q : ∀ r' H', Ext H H' → RowB K b H' r' (sts.take k.toNat) → Q (.ref r') H') : rSlA K (.ref r) none (some k) H Q := by
  obtain ⟨ps, hp, al⟩ := hR
  have ek : k = ((k.toNat : Nat) : Int) := by omega
  have hl : (ps.map V.ref).length = ps.length := List.length_map _
  have alen := al.al.len
  refine ⟨r, _, rfl, hp, fun hw => ?_, fun hw p np => ?_⟩
  · have e := hw.2
    rw [ek, HT.sIx_nat, hl] at e
    refine q r H .refl ⟨ps, hp, ?_⟩
    rw [List.take_of_length_le (by omega)]
    exact al
  · refine q p _ (Ext.refl.new np) ⟨ps.take k.toNat, SqT.of ?_, (al.take _).ext (Ext.refl.new np)⟩
    rw [upd_same]
    unfold cutV
    rw [ek, HT.sIx_nat, HT.sIx_none, List.drop_zero, Nat.sub_zero, List.map_take, hl]
    congr 2
    by_cases h : k.toNat ≤ ps.length
    · rw [Nat.min_eq_left (by omega)]; rw [Int.toNat_natCast]
    · rw [Nat.min_eq_right (by omega), List.take_of_length_le (by rw [hl]; omega), List.take_of_length_le (by rw [hl]; omega)]
theorem rowB_drop {σ : L2.St} {k : Int} {Q : VK} (hR : RowB K b H r sts) (h0 : 0 ≤ k) (q : ∀ r' H', Ext H H' → RowB K b H' r' (sts.drop k.toNat) → Q (.ref r') H') : tNoPart σ H fun u H3 => rSlA K (.ref r) (some k) u H3 Q := by
  obtain ⟨ps, hp, al⟩ := hR
  have ek : k = ((k.toNat : Nat) : Int) := by omega
  have hl : (ps.map V.ref).length = ps.length := List.length_map _
  have alen := al.al.len
  show rSlA K (.ref r) (some k) none H Q
  refine ⟨r, _, rfl, hp, fun hw => ?_, fun hw p np => ?_⟩
  · have e := hw.1
    rw [ek, HT.sIx_nat, hl] at e
    by_cases hk : k.toNat = 0
    · refine q r H .refl ⟨ps, hp, ?_⟩
      rw [hk]
      exact al
    · have e3 : ps = [] := List.eq_nil_of_length_eq_zero (by omega)
      subst e3
      have e4 : sts = [] := List.eq_nil_of_length_eq_zero (by rw [← alen]; rfl)
      subst e4
      refine q r H .refl ⟨[], hp, ?_⟩
      rw [List.drop_nil]
      exact .nil
  · refine q p _ (Ext.refl.new np) ⟨ps.drop k.toNat, SqT.of ?_, (al.drop _).ext (Ext.refl.new np)⟩
    rw [upd_same]
    unfold cutV
    rw [ek, HT.sIx_nat, HT.sIx_none, List.map_drop, hl, Int.toNat_natCast]
    congr 2
    by_cases h : k.toNat ≤ ps.length
    · rw [Nat.min_eq_left (by omega), List.take_of_length_le (by rw [List.length_drop, hl]; omega)]
    · rw [Nat.min_eq_right (by omega), Nat.sub_self, List.take_zero, List.drop_eq_nil_of_le (by rw [hl]; omega)]
theorem rowB_cat {Q : VK} (h1 : RowB K b H r s1) (h2 : RowB K b H t s2) (hl : s1.length + s2.length ≤ 1000) (q : ∀ r' H', Ext H H' → RowB K b H' r' (s1 ++ s2) → Q (.ref r') H') : rCatA K (.ref r) (.ref t) H Q := by
  obtain ⟨ps, hp, al⟩ := h1
  obtain ⟨qs, hq, bl⟩ := h2
  have l1 := al.al.len
  have l2 := bl.al.len
  have n1 : ps.map V.ref = [] → s1 = [] := fun e => by
    rw [List.map_eq_nil_iff.mp e] at l1
    exact List.eq_nil_of_length_eq_zero l1.symm
  have n2 : qs.map V.ref = [] → s2 = [] := fun e => by
    rw [List.map_eq_nil_iff.mp e] at l2
    exact List.eq_nil_of_length_eq_zero l2.symm
  refine ⟨r, t, _, _, rfl, rfl, hp, hq, ?_, fun e => ?_, fun _ e => ?_, fun _ _ p np => ?_⟩
  · rw [List.length_map, List.length_map, l1, l2, sizeLine_eq]; omega
  · rw [n1 e, List.nil_append] at q
    exact q t H .refl ⟨qs, hq, bl⟩
  · rw [n2 e, List.append_nil] at q
    exact q r H .refl ⟨ps, hp, al⟩
  · refine q p _ (Ext.refl.new np) ⟨ps ++ qs, SqT.of ?_, (al.append bl).ext (Ext.refl.new np)⟩
    rw [upd_same, List.map_append]
end
inductive RwB (K : PySem.W.Frag) (b : Nat) (H : Hp) : List Addr → List (List Stp) → Prop where
  | nil : RwB K b H [] []
  | cons {r : Addr} {sts : List Stp} {rs : List Addr} {rws : List (List Stp)} (h : RowB K b H r sts) (l : sts.length ≤ 6) (t : RwB K b H rs rws) : RwB K b H (r :: rs) (sts :: rws)
section
variable {K : PySem.W.Frag} {b : Nat} {H H' : Hp}
theorem RwB.ext (k : Ext H H') : ∀ {rs : List Addr} {rws : List (List Stp)}, RwB K b H rs rws → RwB K b H' rs rws
  | _, _, .nil => .nil
  | _, _, .cons h l t => .cons (h.ext k) l (t.ext k)
theorem RwB.kp {j : Addr} {ys : List V} (hj : H j = some (.lst ys)) (k : Kp j H H') : ∀ {rs : List Addr} {rws : List (List Stp)}, RwB K b H rs rws → RwB K b H' rs rws
  | _, _, .nil => .nil
  | _, _, .cons h l t => .cons (h.kp k hj) l (t.kp hj k)
theorem RwB.snoc {r : Addr} {sts : List Stp} (h : RowB K b H r sts) (l : sts.length ≤ 6) : ∀ {rs : List Addr} {rws : List (List Stp)}, RwB K b H rs rws → RwB K b H (rs ++ [r]) (rws ++ [sts])
  | _, _, .nil => .cons h l .nil
  | _, _, .cons h' l' t => .cons h' l' (t.snoc h l)
theorem RwB.len : ∀ {rs : List Addr} {rws : List (List Stp)}, RwB K b H rs rws → rs.length = rws.length
  | _, _, .nil => rfl
  | _, _, .cons _ _ t => congrArg (· + 1) t.len
theorem RwB.get : ∀ {rs : List Addr} {rws : List (List Stp)} {i : Nat} {r : Addr}, RwB K b H rs rws → rs[i]? = some r → ∃ sts, rws[i]? = some sts ∧ RowB K b H r sts ∧ sts.length ≤ 6
  | _, _, _, _, .nil, e => by simp at e
  | _, _, 0, _, .cons h l t, e => by
    simp at e; subst e
    exact ⟨_, by simp, h, l⟩
  | _, _, i + 1, _, .cons h l t, e => by
    obtain ⟨sts, e1, h1⟩ := t.get (i := i) (by simpa using e)
    exact ⟨sts, by simpa using e1, h1⟩
theorem RwB.set : ∀ {rs : List Addr} {rws : List (List Stp)} {i : Nat} {r : Addr} {sts : List Stp}, RwB K b H rs rws → RowB K b H r sts → sts.length ≤ 6 → RwB K b H (rs.set i r) (rws.set i sts)
  | _, _, _, _, _, .nil, _, _ => .nil
  | _, _, 0, _, _, .cons h l t, h', l' => .cons h' l' t
  | _, _, i + 1, _, _, .cons h l t, h', l' => .cons h l (t.set h' l')
theorem RwB.rw : ∀ {rs : List Addr} {rws : List (List Stp)}, RwB K b H rs rws → Rw K H rs rws
  | _, _, .nil => .nil
  | _, _, .cons h l t => .cons h.row l t.rw
end
end Pd

set_option maxHeartbeats 4000000
namespace Pd
open PySem PySem.Spec PyProof.Rows L2 SX
/-! ### line.replace(step[1] * 2, step[1]), step = ('once', a), a's token below n -/
def tReplM (to : TE) (i n : Nat) : TE := fun σ H Q => to σ H fun v H1 => ∃ x p a, v = .str x ∧ σ[i]? = some (some (.ref p)) ∧ OnceB n H1 p a ∧ a.length = 1 ∧ x.length ≤ 1000 ∧ Q (.str (Txt.replace x (a ++ a) a)) H1
theorem pen_replM {n : Nat} {X : Cx} {i : Nat} {kx : Str} {o : Expr} {to : TE} {j0 j1 j2 : Nat} {p2 p4 c0 c1 c2 q0 q2 q3 apos pos : Pos} (nb : PySem.W.nsIn X.K cStatics sharingNotToldKey = some none) (ho : PEn n X o to) (hN : X.N[i]? = some kx) (hv : Vis X.env.scope kx) (hd : (kx == ("__debug__" : Str)) = false := by decide)
    (hcd : (kx == ("__classdict__" : Str)) = false := by decide)
    (hst : starEach [.BinOp (.Subscript (.Name kx p2) (.Constant (.int 1) j0 c0) q0) .Mult (.Constant (.int 2) j1 c1) q2, .Subscript (.Name kx p4) (.Constant (.int 1) j2 c2) q3] X.env =
      [(false, eval (.BinOp (.Subscript (.Name kx p2) (.Constant (.int 1) j0 c0) q0) .Mult (.Constant (.int 2) j1 c1) q2) X.env), (false, eval (.Subscript (.Name kx p4) (.Constant (.int 1) j2 c2) q3) X.env)] := by rfl)
    (hbs : attributeBase o "replace" X.env (eval o X.env) = eval o X.env := by rfl) (hln : (apos.endLine == pos.line) = true := by rfl) :
    PEn n X (.Call (.Attribute o "replace" apos) [.BinOp (.Subscript (.Name kx p2) (.Constant (.int 1) j0 c0) q0) .Mult (.Constant (.int 2) j1 c1) q2, .Subscript (.Name kx p4) (.Constant (.int 1) j2 c2) q3] [] pos) (tReplM to i n) := by
  constructor
  intro pins s σ H Q l I h
  refine PySem.Call_method2 hbs hst hln (thk l (ho.run pins s σ H _ l I h) ?_)
  rintro v s1 l1 ⟨y, H1, I1, r1, x, p, a, rfl, hσ, ⟨m, t0, t, hp, ht, htn⟩, ha, hz, q⟩
  obtain ⟨tx, rfl⟩ := r1
  have tup : ∀ s', Inv X pins σ H1 s' → s'.heap.IsTuple p #[.str "once" t0, .str a t] := fun s' I' => ⟨_, (I'.hok p _ hp).1, rfl, m, rfl⟩
  refine ⟨"str", _, F.plainAttrs_str, F.slot_str_replace, F.type_str_replace, typeIs_str _ _ _, (fun _ e => nomatch e), Calls.callWith_builtin rfl (Calls.evalArgs_plain (Calls.spliced_cons (wpAny_BinOp ?_)))⟩
  refine thk l1 (item_rawV (Q := fun w s' => w = Value.str a t ∧ Inv X pins σ H1 s') hN hv I1 hσ tup (by decide) (by show (1:Int) < ((2:Nat):Int); decide) (by show 2 ≤ 1000; decide) rfl (fun s2 I2 => ⟨rfl, I2⟩) (fun _ _ => rfl) hd hcd) ?_
  rintro w1 s2 l2 ⟨rfl, I2⟩
  refine wpAny_Constant_int ?_
  have e2 : (⟨(List.replicate (2 : Int).toNat a.cps).foldl (· ++ ·) #[]⟩ : Str) = a ++ a := by
    show (⟨#[] ++ a.cps ++ a.cps⟩ : Str) = ⟨a.cps ++ a.cps⟩
    rw [Array.empty_append]
  have l2a : (a ++ a).length = 2 := by
    have e := Str.length_append a a
    rw [e, ha]
  refine PySem.P.mul_str (by decide) (fun _ _ => by rw [ha]; decide) (fun _ _ => by rw [ha]; decide) ?_
  rw [if_neg (by decide), if_neg (by rw [ha]; decide), e2]
  refine ⟨by rw [l2a]; decide, ?_⟩
  refine Calls.spliced_cons (item_rawV hN hv ((I2.tok (s2.toks + 1)).tok (s2.toks + 1 + 1)) hσ tup (by decide) (by show (1:Int) < ((2:Nat):Int); decide) (by show 2 ≤ 1000; decide) rfl (fun s4 I4 => Calls.spliced_nil ?_) (fun _ _ => rfl) hd hcd)
  have lt : t < s2.toks + 1 := Nat.lt_succ_of_lt (Nat.lt_of_lt_of_le htn l2)
  refine replace_all (unbooked (nb_of I4.ok.mod nb) I4) (Nat.ne_of_gt (Nat.lt_of_le_of_lt (Nat.zero_le _) lt)) ht (fun e => absurd lt (by rw [← e]; exact Nat.lt_irrefl _)) (by rw [ha]; omega) fun t' k => ⟨.str (Txt.replace x (a ++ a) a), H1, I4.tok k, ⟨t', rfl⟩, q⟩
/-! ### aa in line -/
theorem pairB_iff (a : Nat) : ∀ l : List Nat, pairB a l = true ↔ ∃ i, l[i]? = some a ∧ l[i + 1]? = some a
  | [] => by simp [pairB]
  | [x] => by
    constructor
    · intro h; cases h
    · rintro ⟨i, h1, h2⟩
      simp at h2
  | x :: y :: r => by
    have ih := pairB_iff a (y :: r)
    show ((decide (x = a) && decide (y = a)) || pairB a (y :: r)) = true ↔ _
    constructor
    · intro h
      rcases (Bool.or_eq_true _ _).mp h with q | q
      · obtain ⟨q1, q2⟩ := (Bool.and_eq_true _ _).mp q
        exact ⟨0, by rw [of_decide_eq_true q1]; rfl, by rw [of_decide_eq_true q2]; rfl⟩
      · obtain ⟨i, h1, h2⟩ := ih.mp q
        exact ⟨i + 1, by simpa using h1, by simpa using h2⟩
    · rintro ⟨i, h1, h2⟩
      refine (Bool.or_eq_true _ _).mpr ?_
      cases i with
      | zero =>
        left
        simp at h1 h2
        rw [h1, h2]; simp
      | succ i => exact .inr (ih.mpr ⟨i, by simpa using h1, by simpa using h2⟩)
theorem take2_iff (a : Nat) : ∀ (l : List Nat) (i : Nat), ((l.drop i).take 2 == [a, a]) = true ↔ (l[i]? = some a ∧ l[i + 1]? = some a)
  | [], i => by simp
  | x :: r, i + 1 => by
    rw [List.drop_succ_cons, take2_iff a r i]; simp
  | [x], 0 => by simp
  | x :: y :: r, 0 => by simp
theorem in_pair (a : Nat) (l : List Nat) : (!(Builtin.Str.occurrences (S l) (S [a, a]) 0 (S l).length 1).isEmpty) = pairB a l := by
  rw [Bool.eq_iff_iff, PySem.StrLaws.found_iff, pairB_iff]
  have e : ∀ i, Builtin.Str.subAt (S l) (S [a, a]) i = ((l.drop i).take 2 == [a, a]) := fun i => by
    rw [PySem.StrLaws.subAt_eq, S_len]
    have e1 : (S l).cps.toList = l := by simp [S]
    have e2 : (S [a, a]).cps.toList = [a, a] := by simp [S]
    rw [e1, e2]; rfl
  constructor
  · rintro ⟨i, h1, h2⟩
    rw [e] at h2
    exact ⟨i, (take2_iff a l i).mp h2⟩
  · rintro ⟨i, h1, h2⟩
    refine ⟨i, ?_, ?_⟩
    · rw [S_len, S_len]
      have := (List.getElem?_eq_some_iff.mp h2).1
      show i + 2 ≤ _
      omega
    · rw [e]; exact (take2_iff a l i).mpr ⟨h1, h2⟩
end Pd

set_option maxHeartbeats 4000000
namespace Pd
open PySem PySem.Spec PyProof.Rows L2 SX
def spLFold (K : PySem.W.Frag) (n : Nat) : Sp := fun vs H Q _ => ∃ (r : Addr) (sts : List Stp) (l : List Nat), vs = [.ref r, .str (S l)] ∧ RowB K n H r sts ∧ Good l ∧ ∀ H', Ext H H' → Q (.str (S (mks sts l))) H'
section
variable {P : Program} {w : World} {K : PySem.W.Frag} {mg : Str → Option Value} {base : Heap}
theorem ok_lfold {f : Addr} {fd : FuncData} (n : Nat) (F : Fun K "_law_fold" "_law_fold" sLawFold f fd) (T : Nms mg) (nb : PySem.W.nsIn K cStatics sharingNotToldKey = some none) : FnN n P w K mg base 1 f (spLFold K n) := by
  refine fnN_of F scLawFold (fun kV doc pm an cdv ct us hl => match us, hl with | [_, _], _ => rfl) (fun vs H Q E h => ?_) (fun cdv A outer s H vs Q E hr h => ?_)
  · obtain ⟨p, st, l, rfl, _⟩ := h
    rfl
  · obtain ⟨r, sts, l, rfl, ⟨ps, hr0, al⟩, hG, q⟩ := h
    have nd := scLawFold.nd
    refine ⟨_, PSsn.nox (pssn_cons (psn_for PassesOwn.never rfl (pi_tup (pv 0)) (pg_name (i := 2) nd rfl (Or.inr rfl)) (pssn_one
      (psn_if (ptn (pt_cmpR op_eq (pe_ix ix_tup (pv 2) pe_int (fun _ _ => rfl)) pe_str (nomark _))) (pssn (pss_one (ps_set (i := 1) nd rfl (Or.inl rfl) (pe_lower (pv 1)))))
      (pssn_one (psn_if (ptn (pt_cmpR op_eq (pe_ix ix_tup (pv 2) pe_int (fun _ _ => rfl)) pe_str (nomark _))) (pssn (pss_one (ps_set (i := 1) nd rfl (Or.inl rfl) (pe_replV (i := 2) nb (pv 1) rfl (.inr (.inl rfl))))))
      (pssn_one (psn_if (ptn (pt_cmpR op_eq (pe_ix ix_tup (pv 2) pe_int (fun _ _ => rfl)) pe_str (nomark _))) (pssn (pss_one (ps_set (i := 1) nd rfl (Or.inl rfl) (pe_join pe_str
        (pe_lc (own := [("one", 3)]) (g := gName 3) rfl nd (pi_str (pv 1)) (blkOk_by (N := ["steps", "text", "step", "one"]) (sc := defScope sLawFold) (by decide +kernel)) (fun _ _ _ _ _ => pg_name (i := 3) nd rfl (Or.inl rfl)) (fun _ _ _ _ _ => pts_one (pt_cmpR op_notIn_sign (pv 3) (pe_ix (ix_tupK (K := K) rfl) (pv 2) pe_int (fun _ _ => rfl)) rfl))
          (fun _ _ _ _ _ => pv 3))))))
      (pssn_one (psn_if (ptn (pt_cmpR op_eq (pe_ix ix_tup (pv 2) pe_int (fun _ _ => rfl)) pe_str (nomark _))) (pssn (pss_one (ps_set (i := 1) nd rfl (Or.inl rfl) (pe_m1 PySem.F.slot_str_lstrip PySem.F.type_str_lstrip mt_lstripChars (pv 1) (pe_ix ix_tup (pv 2) pe_int (fun _ _ => rfl))))))
      (pssn_one (psn_if (ptn (pt_cmpR op_eq (pe_ix ix_tup (pv 2) pe_int (fun _ _ => rfl)) pe_str (nomark _)))
        (pssn_one (psn_while PassesOwn.never (ptn (pt_cmpR op_in_str (pe_op op_mulS (pe_ix ix_tup (pv 2) pe_int (fun _ _ => rfl)) pe_int) (pv 1) rfl)) (pssn_one (psn_set (i := 1) nd rfl (Or.inl rfl) (pen_replM (i := 2) nb (pen (pv 1)) rfl (.inr (.inl rfl)))))))
      (pssn (pss_one (ps_set (i := 1) nd rfl (Or.inl rfl) (pe_slice C8.sl_txt (pv 1) po_none (po_some (pe_ix ix_tup (pv 2) pe_int (fun _ _ => rfl))))))))))))))))))
      (pssn_one (psn (ps_ret (pv 1))))), ?_⟩
    refine ⟨_, rfl, r, rfl, ⟨_, hr0⟩, for_it (walk_tup (xs := ps.map V.ref)) (fun i σ H' => ∃ u, σ = [some (.ref r), some (.str (S (mks (sts.take i) l))), u, none] ∧ Ext H H') ⟨none, by rw [List.take_zero]; rfl, .refl⟩ (fun i σ H' _ p => by
      obtain ⟨u, _, k⟩ := p
      exact sqT_keep hr0 (fun o x => k r o x)) ?_ ?_⟩
    · rintro i x σ H2 H3 hi ⟨u, rfl, k2⟩ ⟨rfl, hx⟩
      rw [List.getElem?_map] at hx
      obtain ⟨p, hp, rfl⟩ := Option.map_eq_some_iff.mp hx
      obtain ⟨st, e, hst0, ok⟩ := al.get hp
      have hst := hst0.ext k2
      have gd : Good (mks (sts.take i) l) := mks_good (fun s hs => al.al.ok s (List.mem_of_mem_take hs)) hG
      have em := mks_take l e
      generalize mks (sts.take i) l = m at gd em ⊢
      generalize mks (sts.take (i + 1)) l = m' at em ⊢
      have hl60 := gd.2
      have in0 : ∀ {H' : Hp}, Ext H3 H' → SqT K H' p (stpVals st) := fun k => (hst.1.ext k).seq
      have wa := word_at st
      have sq := hst.1.seq (K := K)
      have no : ∀ {a b : Str}, a ≠ b → ¬ decide (V.str a = V.str b) = true := fun ne h => ne (by injection of_decide_eq_true h)
      cases st with
      | low =>
        refine ⟨_, rfl, p, _, 0, _, rfl, rfl, sq, wa, rfl, _, rfl, ite2 (fun _ => ?_) (fun h => absurd (decide_eq_true rfl) h)⟩
        refine ⟨_, rfl, ⟨_, rfl⟩, _, rfl, rfl, by rw [S_len]; omega, ?_⟩
        rw [lower_mk gd, ← em]
        exact ⟨_, rfl, k2⟩
      | swap a b =>
        refine ⟨_, rfl, p, _, 0, _, rfl, rfl, sq, wa, rfl, _, rfl, ite2 (fun h => absurd h (no (show ("swap" : Str) ≠ "lower" by decide +kernel))) (fun _ => ?_)⟩
        refine ⟨_, rfl, p, _, 0, _, rfl, rfl, sq, wa, rfl, _, rfl, ite2 (fun _ => ?_) (fun h => absurd (decide_eq_true rfl) h)⟩
        refine ⟨_, rfl, S m, p, sg a, sg b, rfl, rfl, hst.1, ?_, ?_⟩
        · have e : (sg b).length = 1 := rfl
          rw [S_len, e]; omega
        · rw [replace_mk, ← em]
          exact ⟨_, rfl, k2⟩
      | drop cs =>
        refine ⟨_, rfl, p, _, 0, _, rfl, rfl, sq, wa, rfl, _, rfl, ite2 (fun h => absurd h (no (show ("drop" : Str) ≠ "lower" by decide +kernel))) (fun _ => ?_)⟩
        refine ⟨_, rfl, p, _, 0, _, rfl, rfl, sq, wa, rfl, _, rfl, ite2 (fun h => absurd h (no (show ("drop" : Str) ≠ "swap" by decide +kernel))) (fun _ => ?_)⟩
        refine ⟨_, rfl, p, _, 0, _, rfl, rfl, sq, wa, rfl, _, rfl, ite2 (fun _ => ?_) (fun h => absurd (decide_eq_true rfl) h)⟩
        refine ⟨⟨_, rfl⟩, _, rfl, _, rfl, fun D' hD => lc_text (fun c => if c ∉ cs then some c else none) (by omega) hD (fun c H2 acc Nx hc k3 hacc hal nx => ⟨rfl, ?_⟩) fun H2 h2 k3 => ?_⟩
        · refine ⟨_, rfl, _, rfl, p, _, 1, .str (S cs), rfl, rfl, in0 k3, rfl, c, S cs, rfl, rfl, _, rfl, ?_⟩
          show if (!decide (c ∈ cs)) = true then _ else _
          by_cases hc : c ∈ cs
          · rw [decide_eq_true hc]
            refine iteF (nx H2 ?_ k3)
            rw [if_neg (fun h => h hc)]
            show H2 D' = some (.lst (acc ++ []))
            rw [List.append_nil]; exact hacc
          · rw [decide_eq_false hc]
            refine iteT ⟨_, rfl, acc, hacc, hal, nx _ ?_ (k3.new hD)⟩
            rw [if_pos hc]; exact upd_same
        · rw [← mk_drop] at h2
          have hm := mk_len (.drop cs) m
          refine ⟨_, D', (mk (.drop cs) m).map sg, rfl, rfl, .inl (SqL.of h2), ?_, ?_⟩
          · rw [sum_sg, List.length_map]
            show (mk (.drop cs) m).length + (mk (.drop cs) m).length * 0 ≤ 16777216
            omega
          · rw [join_sg, ← em]
            exact ⟨_, rfl, k2.trans k3⟩
      | lead a =>
        refine ⟨_, rfl, p, _, 0, _, rfl, rfl, sq, wa, rfl, _, rfl, ite2 (fun h => absurd h (no (show ("lead" : Str) ≠ "lower" by decide +kernel))) (fun _ => ?_)⟩
        refine ⟨_, rfl, p, _, 0, _, rfl, rfl, sq, wa, rfl, _, rfl, ite2 (fun h => absurd h (no (show ("lead" : Str) ≠ "swap" by decide +kernel))) (fun _ => ?_)⟩
        refine ⟨_, rfl, p, _, 0, _, rfl, rfl, sq, wa, rfl, _, rfl, ite2 (fun h => absurd h (no (show ("lead" : Str) ≠ "drop" by decide +kernel))) (fun _ => ?_)⟩
        refine ⟨_, rfl, p, _, 0, _, rfl, rfl, sq, wa, rfl, _, rfl, ite2 (fun _ => ?_) (fun h => absurd (decide_eq_true rfl) h)⟩
        refine ⟨_, rfl, ⟨_, rfl⟩, _, rfl, p, _, 1, .str (sg a), rfl, rfl, in0 .refl, rfl, _, _, rfl, rfl, by rw [S_len, sizeLine_eq]; omega, ?_⟩
        rw [lstrip_mk, ← em]
        exact ⟨_, rfl, k2⟩
      | once a =>
        refine ⟨_, rfl, p, _, 0, _, rfl, rfl, sq, wa, rfl, _, rfl, ite2 (fun h => absurd h (no (show ("once" : Str) ≠ "lower" by decide +kernel))) (fun _ => ?_)⟩
        refine ⟨_, rfl, p, _, 0, _, rfl, rfl, sq, wa, rfl, _, rfl, ite2 (fun h => absurd h (no (show ("once" : Str) ≠ "swap" by decide +kernel))) (fun _ => ?_)⟩
        refine ⟨_, rfl, p, _, 0, _, rfl, rfl, sq, wa, rfl, _, rfl, ite2 (fun h => absurd h (no (show ("once" : Str) ≠ "drop" by decide +kernel))) (fun _ => ?_)⟩
        refine ⟨_, rfl, p, _, 0, _, rfl, rfl, sq, wa, rfl, _, rfl, ite2 (fun h => absurd h (no (show ("once" : Str) ≠ "lead" by decide +kernel))) (fun _ => ?_)⟩
        refine ⟨_, rfl, p, _, 0, _, rfl, rfl, sq, wa, rfl, _, rfl, ite2 (fun _ => ?_) (fun h => absurd (decide_eq_true rfl) h)⟩
        have ne1 : a + 1 ≠ a := by omega
        refine ⟨fun k σ H' => ∃ m2, k = m2.length ∧ σ = [some (.ref r), some (.str (S m2)), some (.ref p), none] ∧ H' = H3 ∧ m2.length ≤ m.length ∧ onceP a (a + 1) m2 = onceP a (a + 1) m, ⟨_, m, rfl, rfl, rfl, Nat.le_refl _, rfl⟩, ?_⟩
        rintro k σ H' ⟨m2, rfl, rfl, rfl, hm2, ho⟩
        refine ⟨_, rfl, p, _, 1, .str (sg a), rfl, rfl, sq, rfl, sg a, 2, rfl, rfl, ⟨by decide, fun _ _ => by show ¬ ((1 : Nat) : Int) > _; decide, fun _ _ => by show Builtin.Str.tooLong (1 * 2) = false; decide⟩, _, rfl, _, _, rfl, rfl, _, rfl, ?_⟩
        have e2 : Txt.mul (sg a) 2 = S [a, a] := by
          unfold Txt.mul
          rw [if_neg (by decide), if_neg (by show ¬ ((2 : Int) == 1 || 1 == 0) = true; decide)]
          rfl
        rw [e2, in_pair]
        cases hp2 : pairB a m2 with
        | true =>
          refine ⟨_, fun _ _ z => z, ?_⟩
          refine ⟨_, rfl, S m2, p, sg a, rfl, rfl, hst.2 a rfl, rfl, by rw [S_len]; omega, ?_⟩
          rw [replace_halve]
          have lt := halve_lt a _ m2 (Nat.le_refl _) hp2
          exact ⟨_, lt, _, rfl, rfl, rfl, by omega, by rw [onceP_halve a _ _ _ (Nat.le_refl _), ho]⟩
        | false =>
          have e3 := once_end ne1 ho hp2
          refine ⟨some (.ref p), ?_, k2⟩
          rw [em, e3]
          rfl
      | cut n =>
        refine ⟨_, rfl, p, _, 0, _, rfl, rfl, sq, wa, rfl, _, rfl, ite2 (fun h => absurd h (no (show ("cut" : Str) ≠ "lower" by decide +kernel))) (fun _ => ?_)⟩
        refine ⟨_, rfl, p, _, 0, _, rfl, rfl, sq, wa, rfl, _, rfl, ite2 (fun h => absurd h (no (show ("cut" : Str) ≠ "swap" by decide +kernel))) (fun _ => ?_)⟩
        refine ⟨_, rfl, p, _, 0, _, rfl, rfl, sq, wa, rfl, _, rfl, ite2 (fun h => absurd h (no (show ("cut" : Str) ≠ "drop" by decide +kernel))) (fun _ => ?_)⟩
        refine ⟨_, rfl, p, _, 0, _, rfl, rfl, sq, wa, rfl, _, rfl, ite2 (fun h => absurd h (no (show ("cut" : Str) ≠ "lead" by decide +kernel))) (fun _ => ?_)⟩
        refine ⟨_, rfl, p, _, 0, _, rfl, rfl, sq, wa, rfl, _, rfl, ite2 (fun h => absurd h (no (show ("cut" : Str) ≠ "once" by decide +kernel))) (fun _ => ?_)⟩
        refine ⟨_, rfl, _, rfl, p, _, 1, .int (n : Nat), rfl, rfl, in0 .refl, rfl, (n : Nat), rfl, S m, rfl, by rw [S_len, sizeLine_eq]; omega, ?_⟩
        rw [slice_to (by omega), Int.toNat_natCast, ← show m' = m.take n from em]
        exact ⟨_, rfl, k2⟩
    · rintro σ H2 ⟨u, rfl, k2⟩
      refine ⟨_, rfl, ?_⟩
      rw [List.length_map, al.al.len, List.take_length]
      exact q H2 k2
end
end Pd

set_option maxHeartbeats 4000000
namespace Pd
open PySem PySem.Spec PyProof.Rows L2 SX
/-! ### return (e1, e2): a pair of texts, the token of the second is told if wanted -/
def pairO (a : Str) (t0 : Tok) (c : Str) (t : Tok) (m : Nat) : Obj := { cls := .type "tuple", data := .seq #[.str a t0, .str c t] m }
def tPairT (t1 t2 : TE) : TSB := fun D b σ H => t1 σ H fun x H1 => t2 σ H1 fun y H2 => ∃ a c : Str, x = .str a ∧ y = .str c ∧ ∀ p, H2 p = none →
  ((∀ b' m t0 t, b ≤ b' → t ≠ 0 → t < b' → D.rt b' (.ref p) (L2.upd H2 p (.frz (pairO a t0 c t m) (.tup [.str a, .str c])))) ∨ D.rt b (.ref p) (L2.upd H2 p (.tup [.str a, .str c])))
theorem psb_retPair {X : Cx} {e1 e2 : Expr} {t1 t2 : TE} {k : Nat} {p q : Pos} (h1 : PE X e1 t1) (h2 : PEF X e2 t2)
    (hst : starEach [e1, e2] X.env = [(false, eval e1 X.env), (false, eval e2 X.env)] := by rfl) :
    PSB X (.Return (some (.Tuple [e1, e2] k p)) q) (tPairT t1 t2) := by
  constructor
  intro pins s σ H D b l I h
  refine wpAny_Return_some (Tuple_ ?_)
  rw [hst]
  show wpAny _ _ (spliced ((false, eval e1 X.env) :: [(false, eval e2 X.env)])) _ _ _
  refine Calls.spliced_cons (thk l (h1.run pins _ σ H _ I h) ?_)
  rintro u1 s1 l1 ⟨x, H1, I1, r1, h'⟩
  refine Calls.spliced_cons (thk l1 (h2.run pins s1 σ H1 _ I1 h') ?_)
  rintro u2 s2 l2 ⟨⟨y, H2, I2, r2, a, c, rfl, rfl, fin⟩, m1, z2, k2, rfl, m3, m4⟩
  obtain ⟨k1, rfl⟩ := r1
  obtain rfl : z2 = c := by obtain ⟨_, e⟩ := r2; injection e
  refine Calls.spliced_nil (wpAny_newTuple ?_ (by show 2 ≤ sizeLine; decide))
  have new : H2 s2.heap.objs.size = none := I2.hok.fresh (Nat.le_refl _)
  rcases fin _ new with fin | fin
  · refine ⟨s2.toks, Nat.le_refl _, .ref s2.heap.objs.size, σ, upd H2 s2.heap.objs.size (.frz (pairO a k1 z2 k2 0) (.tup [.str a, .str z2])), ?_, rfl, fin s2.toks 0 k1 k2 l2 (Nat.ne_of_gt (Nat.lt_of_lt_of_le (Nat.succ_pos _) m3)) m4⟩
    exact I2.laid (t' := s2.toks) (fun b o q => Heap.get?_push_of_some _ q) (Nat.le_refl _) ⟨Heap.get?_push_size _ rfl, by show 2 ≤ sizeLine; decide, [.str a k1, .str z2 k2], .cons ⟨_, rfl⟩ (.cons ⟨_, rfl⟩ .nil), ⟨_, Heap.get?_push_size _ rfl, rfl, _, rfl⟩⟩
  · refine ⟨b, l2, .ref s2.heap.objs.size, σ, upd H2 s2.heap.objs.size (.tup [.str a, .str z2]), ?_, rfl, fin⟩
    exact I2.laid (t' := s2.toks) (fun b o q => Heap.get?_push_of_some _ q) (Nat.le_refl _) ⟨by show 2 ≤ sizeLine; decide, [.str a k1, .str z2 k2], .cons ⟨_, rfl⟩ (.cons ⟨_, rfl⟩ .nil), ⟨_, Heap.get?_push_size _ rfl, rfl, _, rfl⟩⟩
/-! ### more is known of tokens -/
theorem StpB.mono {b b' : Nat} {H : Hp} {p : Addr} {st : Stp} (h : StpB b H p st) (l : b ≤ b') : StpB b' H p st := ⟨h.1, fun a e => by
  obtain ⟨n, t0, t, x, y, z⟩ := h.2 a e
  exact ⟨n, t0, t, x, y, Nat.lt_of_lt_of_le z l⟩⟩
theorem AlB.mono {b b' : Nat} {H : Hp} (l : b ≤ b') : ∀ {ps : List Addr} {sts : List Stp}, AlB b H ps sts → AlB b' H ps sts
  | _, _, .nil => .nil
  | _, _, .cons h o r => .cons (h.mono l) o (r.mono l)
theorem RowB.mono {K : PySem.W.Frag} {b b' : Nat} {H : Hp} {r : Addr} {sts : List Stp} (h : RowB K b H r sts) (l : b ≤ b') : RowB K b' H r sts := by
  obtain ⟨ps, e, a⟩ := h
  exact ⟨ps, e, a.mono l⟩
theorem RwB.mono {K : PySem.W.Frag} {b b' : Nat} {H : Hp} (l : b ≤ b') : ∀ {rs : List Addr} {rws : List (List Stp)}, RwB K b H rs rws → RwB K b' H rs rws
  | _, _, .nil => .nil
  | _, _, .cons h o r => .cons (h.mono l) o (r.mono l)
theorem AlB.snoc {b : Nat} {H : Hp} {p : Addr} {st : Stp} (hp : StpB b H p st) (ok : st.ok) : ∀ {ps : List Addr} {sts : List Stp}, AlB b H ps sts → AlB b H (ps ++ [p]) (sts ++ [st])
  | _, _, .nil => .cons hp ok .nil
  | _, _, .cons h o r => .cons h o (r.snoc hp ok)
def FourB (K : PySem.W.Frag) (b : Nat) (H : Hp) (l : Addr) (rs : List Addr) (rws : List (List Stp)) : Prop := H l = some (.lst (rs.map V.ref)) ∧ RwB K b H rs rws ∧ rws.length = 4
def spUstep : SpU := fun vs H Q => ∃ (j : Addr) (n : Nat) (l : List Nat), vs = [.ref j, .str (S l)] ∧ JarAt H j n ∧ PoolOk l ∧ n + 50 < 1000000 ∧
  ∀ b p st H', H p = none → st.ok → StpB b H' p st → JarAt H' j (n + 50) → Kp j H H' → Q b (.ref p) H'
def spUrow (K : PySem.W.Frag) : SpU := fun vs H Q => ∃ (j : Addr) (n : Nat) (l : List Nat), vs = [.ref j, .str (S l)] ∧ JarAt H j n ∧ PoolOk l ∧ n + 400 < 1000000 ∧
  ∀ b r sts H', H r = none → sts.length ≤ 6 → RowB K b H' r sts → JarAt H' j (n + 400) → Kp j H H' → Q b (.ref r) H'
def spUdoors (K : PySem.W.Frag) : SpU := fun vs H Q => ∃ (j : Addr) (n : Nat) (l : List Nat), vs = [.ref j, .str (S l)] ∧ JarAt H j n ∧ PoolOk l ∧ n + 3000 < 1000000 ∧
  ∀ b p rs rws H', H p = none → FourB K b H' p rs rws → JarAt H' j (n + 3000) → Kp j H H' → Q b (.ref p) H'
section
variable {P : Program} {w : World} {K : PySem.W.Frag} {mg : Str → Option Value} {base : Heap}
theorem ok_ustep {f : Addr} {fd : FuncData} (F : Fun K "_law_step" "_law_step" sLawStep f fd) (T : Nms mg) (D : Cl P w K mg base 1 "_law_draw" spDraw) (G : ClT P w K mg base 2 "_law_character" spCharacter) : FnU P w K mg base 3 f spUstep := by
  refine fnU_ofB F scLawStep (fun kV doc pm an cdv ct us hl => match us, hl with | [_, _], _ => rfl) (fun vs H Q h => ?_) (fun cdv A outer s H vs Q E hr h => ?_)
  · obtain ⟨j, n, l, rfl, _⟩ := h
    rfl
  · obtain ⟨j, n, l, rfl, hJ, hG, hn, q⟩ := h
    have nd := scLawStep.nd
    refine ⟨_, PSsB.nox (pssb_cons (psb0 (ps_set (i := 2) nd rfl (Or.inl rfl) (pe_cl D hr (by decide) rfl (pa_cons (pv 0) (pa_cons pe_int pa_nil)))))
      (pssb_cons (psb0 (ps_if (pt_cmpR op_eq (pv 2) pe_int (nomark _)) (pss_one (ps_ret (pe_tup (pa_cons pe_str pa_nil)))) pss_nil))
      (pssb_cons (psb0 (ps_if (pt_cmpR op_eq (pv 2) pe_int (nomark _)) (pss_one (ps_retSwap (pef_cl G hr (by decide) rfl (pa_cons (pv 0) (pa_cons (pv 1) pa_nil))) (pef_cl G hr (by decide) rfl (pa_cons (pv 0) (pa_cons (pv 1) pa_nil))))) pss_nil))
      (pssb_cons (psb0 (ps_if (pt_cmpR op_eq (pv 2) pe_int (nomark _))
        (pss_cons (ps_set (i := 3) nd rfl (Or.inl rfl) pe_str)
        (pss_cons (ps_for PassesOwn.never rfl (pi_range1 rfl T.range (pa_cons (pe_op op_add pe_int (pe_cl D hr (by decide) rfl (pa_cons (pv 0) (pa_cons pe_int pa_nil)))) pa_nil)) (pg_name (i := 4) nd rfl (Or.inl rfl))
          (pss_cons (ps_set (i := 5) nd rfl (Or.inl rfl) (PEF.pe (pef_cl G hr (by decide) rfl (pa_cons (pv 0) (pa_cons (pv 1) pa_nil)))))
          (pss_one (ps_if (pt_cmpR op_notIn_sign (pv 5) (pv 3) rfl) (pss_one (ps_set (i := 3) nd rfl (Or.inl rfl) (pe_op op_add_str (pv 3) (pv 5)))) pss_nil))))
        (pss_one (ps_ret (pe_tup (pa_cons pe_str (pa_cons (pv 3) pa_nil))))))) pss_nil))
      (pssb_cons (psb_if (fun _ => ptn (pt_cmpR op_lt (pv 2) pe_int (nomark _))) (pssb_one (psb_retPair (pe_ix ix_list (pe_lst (pa_cons pe_str (pa_cons pe_str pa_nil))) (pe_op op_sub (pv 2) pe_int) (fun _ _ => rfl)) (pef_cl G hr (by decide) rfl (pa_cons (pv 0) (pa_cons (pv 1) pa_nil))))) pssb_nil)
      (pssb_one (psb0 (ps_ret (pe_tup (pa_cons pe_str (pa_cons (pe_op op_add pe_int (pe_cl D hr (by decide) rfl (pa_cons (pv 0) (pa_cons pe_int pa_nil)))) pa_nil)))))))))))
      , ?_⟩
    have hj0 := hJ.lst
    obtain ⟨xs0, hx0⟩ := id hj0
    refine ⟨_, rfl, j, 6, n, rfl, hJ, by omega, by decide, by decide, fun r H1 h0 h1 J1 k1 => ?_⟩
    have new : ∀ {H3 : Hp} {p : Addr} {o : HO}, Kp j H H3 → JarAt H3 j (n + 50) → H3 p = none → H p = none ∧ JarAt (L2.upd H3 p o) j (n + 50) ∧ Kp j H (L2.upd H3 p o) := fun {H3 p o} k J hp =>
      ⟨k.none hp hj0 J.lst, J.new hp, k.new hp⟩
    refine ⟨_, rfl, rfl, _, rfl, ite2 (fun _ => ?_) (fun e0 => ?_)⟩
    · refine ⟨by show 1 ≤ sizeLine; decide, fun p hp => ?_⟩
      obtain ⟨a1, a2, a3⟩ := new (o := .tup [V.str "lower"]) k1 (J1.le (by omega)) hp
      exact q _ p .low _ a1 trivial ⟨upd_same, fun _ z => nomatch z⟩ a2 a3
    refine ⟨_, rfl, rfl, _, rfl, ite2 (fun _ => ?_) (fun e1 => ?_)⟩
    · refine ⟨_, rfl, _, rfl, j, _, l, rfl, J1, hG, by omega, fun c H2 hc J2 k2 => ?_⟩
      refine ⟨_, rfl, _, rfl, j, _, l, rfl, J2, hG, by omega, fun d H3 hd J3 k3 => ?_⟩
      refine ⟨_, _, rfl, rfl, fun p H4 np sw hs4 => ?_⟩
      have k13 := (k1.trans k2).trans k3
      obtain ⟨xs3, hx3⟩ := J3.lst
      refine q _ p (.swap c d) H4 (k13.none np hj0 J3.lst) ⟨hc, hd⟩ ⟨sw, fun _ z => nomatch z⟩ ((J3.kp (hs4 j (ne_of_none hx3 np))).le (by omega)) fun b o hb hbo => ?_
      have b3 := k13 b o hb hbo
      exact (hs4 b (ne_of_none b3 np)).trans b3
    refine ⟨_, rfl, rfl, _, rfl, ite2 (fun _ => ?_) (fun e2 => ?_)⟩
    · refine ⟨_, rfl, j, 10, _, rfl, J1, by omega, by decide, by decide, fun r2 H2 h02 h12 J2 k2 => ⟨_, _, rfl, rfl, _, rfl, by omega, by omega, ?_⟩⟩
      refine for_range (lo := 0) (n := (1 + r2).toNat) (fun i σ H' => ∃ (cs : List Nat) (u v : Option V), σ = [some (.ref j), some (.str (S l)), some (.int r), some (.str (S cs)), u, v] ∧ (∀ c ∈ cs, c ∈ CH) ∧ cs.Nodup ∧ (0 < i → 1 ≤ cs.length) ∧ cs.length ≤ i ∧ JarAt H' j (n + 2 + 2 * i) ∧ Kp j H H')
        ⟨[], none, none, rfl, (fun _ h => nomatch h), List.nodup_nil, fun h => absurd h (by decide), Nat.le_refl _, J2, k1.trans k2⟩ ?_ ?_
      · rintro i σ H3 hi ⟨cs, u, v, rfl, hcs, hnd, hc1, hcl, J3, k3⟩
        refine ⟨_, rfl, _, rfl, j, _, l, rfl, J3, hG, by omega, fun d H4 hd J4 k4 => ?_⟩
        refine ⟨_, rfl, _, rfl, d, _, rfl, rfl, _, rfl, ?_⟩
        show if (!decide (d ∈ cs)) = true then _ else _
        by_cases hdl : d ∈ cs
        · rw [decide_eq_true hdl]
          exact iteF ⟨cs, _, _, rfl, hcs, hnd, fun _ => List.length_pos_of_mem hdl, by omega, J4.le (by omega), k3.trans k4⟩
        · rw [decide_eq_false hdl]
          refine iteT ⟨_, rfl, _, rfl, _, _, rfl, rfl, by rw [sg_S, S_len, S_len, sizeLine_eq]; simp; omega, ?_⟩
          rw [sg_S, S_cat]
          refine ⟨cs ++ [d], _, _, rfl, fun c hc => ?_, ?_, fun _ => by rw [List.length_append]; simp, by rw [List.length_append]; simp; omega, J4.le (by omega), k3.trans k4⟩
          · rcases List.mem_append.mp hc with h | h
            · exact hcs c h
            · rw [List.mem_singleton.mp h]; exact hd
          · rw [List.nodup_append]
            refine ⟨hnd, List.nodup_cons.mpr ⟨List.not_mem_nil, List.nodup_nil⟩, fun x hx y hy => ?_⟩
            rw [List.mem_singleton.mp hy]
            rintro rfl
            exact hdl hx
      · rintro σ H3 ⟨cs, u, v, rfl, hcs, hnd, hc1, hcl, J3, k3⟩
        refine ⟨_, rfl, by show 2 ≤ sizeLine; decide, fun p hp => ?_⟩
        obtain ⟨a1, a2, a3⟩ := new (o := .tup [V.str "drop", V.str (S cs)]) k3 (J3.le (by omega)) hp
        exact q _ p (.drop cs) _ a1 ⟨hc1 (by omega), by omega, hnd, hcs⟩ ⟨upd_same, fun _ z => nomatch z⟩ a2 a3
    have e0' : r ≠ 0 := fun e => e0 (decide_eq_true (congrArg V.int e))
    have e1' : r ≠ 1 := fun e => e1 (decide_eq_true (congrArg V.int e))
    have e2' : r ≠ 2 := fun e => e2 (decide_eq_true (congrArg V.int e))
    refine ⟨_, rfl, _, _, rfl, rfl, _, rfl, ite2 (fun h5 => ?_) (fun h5 => ?_)⟩
    · have h5 := of_decide_eq_true h5
      refine ⟨by show 2 ≤ sizeLine; decide, fun lx hlx => ?_⟩
      have na : (L2.upd H1 lx (.lst [V.str "lead", V.str "once"])) lx = some (.lst [V.str "lead", V.str "once"]) := upd_same
      have k2' : Kp j H (L2.upd H1 lx (.lst [V.str "lead", V.str "once"])) := k1.new hlx
      have J2' : JarAt (L2.upd H1 lx (.lst [V.str "lead", V.str "once"])) j (n + 1) := J1.new hlx
      obtain rfl | rfl : r = 3 ∨ r = 4 := by omega
      · refine ⟨_, rfl, _, _, rfl, rfl, lx, _, 0, V.str "lead", rfl, rfl, SqL.of na, rfl, _, rfl, _, rfl, j, _, l, rfl, J2', hG, by omega, fun c H3 hc J3 k3 => ⟨_, _, rfl, rfl, fun p hp => .inr ?_⟩⟩
        obtain ⟨a1, a2, a3⟩ := new (o := .tup [V.str "lead", V.str (sg c)]) (k2'.trans k3) (J3.le (by omega)) hp
        exact q _ p (.lead c) _ a1 hc ⟨upd_same, fun _ z => nomatch z⟩ a2 a3
      · refine ⟨_, rfl, _, _, rfl, rfl, lx, _, 1, V.str "once", rfl, rfl, SqL.of na, rfl, _, rfl, _, rfl, j, _, l, rfl, J2', hG, by omega, fun c H3 hc J3 k3 => ⟨_, _, rfl, rfl, fun p hp => .inl fun b' m t0 t lb nt lt => ?_⟩⟩
        obtain ⟨a1, a2, a3⟩ := new (o := .frz (pairO "once" t0 (sg c) t m) (.tup [V.str "once", V.str (sg c)])) (k2'.trans k3) (J3.le (by omega)) hp
        exact q _ p (.once c) _ a1 hc ⟨.inr ⟨_, upd_same⟩, fun a z => by cases z; exact ⟨m, t0, t, upd_same, nt, lt⟩⟩ a2 a3
    · refine ⟨_, rfl, j, 9, _, rfl, J1, by omega, by decide, by decide, fun r3 H3 h03 h13 J3 k3 => ⟨_, _, rfl, rfl, by show 2 ≤ sizeLine; decide, fun p hp => ?_⟩⟩
      obtain ⟨a1, a2, a3⟩ := new (o := .tup [V.str "cut", V.int (1 + r3)]) (k1.trans k3) (J3.le (by omega)) hp
      refine q _ p (.cut (1 + r3).toNat) _ a1 ⟨by omega, by omega⟩ ⟨?_, fun _ z => nomatch z⟩ a2 a3
      show (L2.upd H3 p _) p = some (.tup [V.str "cut", V.int (((1 + r3).toNat : Nat) : Int)])
      rw [show (((1 + r3).toNat : Nat) : Int) = 1 + r3 by omega]
      exact upd_same
end
end Pd

set_option maxHeartbeats 4000000
namespace Pd
open PySem PySem.Spec PyProof.Rows L2 SX
/-- a def that tells a bound of tokens, by its name -/
structure ClB (P : Program) (w : World) (K : PySem.W.Frag) (mg : Str → Option Value) (base : Heap) (k : Nat) (x : Str) (sp : SpU) : Prop where
  ex : ∃ (f : Addr), FnU P w K mg base k f sp ∧ mg x = some (.ref f) ∧ PySem.W.keepIn K (.ref f) = true
theorem peb_clB {X : Cx} {k j : Nat} {x : Str} {sp : SpU} {e : Expr} {es : List Expr} {t : TA} {p pos : Pos} (c : ClB X.prog X.w X.K X.mg X.base k x sp) (hr : Room j X.A) (hk : k ≤ j) (hg : Gl X x) (ha : PA X (e :: es) t)
    (hdb : (x == ("__debug__" : Str)) = false := by decide) (he : starEach (e :: es) X.env = (false, eval e X.env) :: starEach es X.env := by rfl) (hpl : (backTo pos (starEach es X.env)).any (·.1) = false := by rfl) :
    PEB X (.Call (.Name x p) (e :: es) [] pos) (tCallU sp t) := by
  obtain ⟨f, F, hm, kp⟩ := c.ex
  exact peb_callU F (hr.mono hk) hg hm kp ha hdb he hpl
section
variable {P : Program} {w : World} {K : PySem.W.Frag} {mg : Str → Option Value} {base : Heap}
theorem ok_urow {f : Addr} {fd : FuncData} (F : Fun K "_law_steps" "_law_steps" sLawSteps f fd) (T : Nms mg) (D : Cl P w K mg base 1 "_law_draw" spDraw) (G : ClB P w K mg base 3 "_law_step" spUstep) : FnU P w K mg base 4 f (spUrow K) := by
  refine fnU_ofB F scLawSteps (fun kV doc pm an cdv ct us hl => match us, hl with | [_, _], _ => rfl) (fun vs H Q h => ?_) (fun cdv A outer s H vs Q E hr h => ?_)
  · obtain ⟨j, n, l, rfl, _⟩ := h
    rfl
  · obtain ⟨j, n, l, rfl, hJ, hG, hn, q⟩ := h
    have nd := scLawSteps.nd
    refine ⟨_, PSsB.nox (pssb_one (psb_ret (peb_callTy call_tuple_of (by rfl) T.tuple (by decide +kernel) (pab_cons (peb_lc (own := [("turn", 2)]) (g := gName 2) (tt := tYes) rfl nd
      (pi_range1 rfl T.range (pa_cons (pe_cl D hr (by decide) rfl (pa_cons (pv 0) (pa_cons pe_int pa_nil))) pa_nil)) (blkOk_by (N := ["well", "pool", "turn"]) (sc := defScope sLawSteps) (by decide +kernel)) (fun _ _ _ _ _ => pg_name (i := 2) nd rfl (Or.inl rfl)) (fun _ _ _ _ _ => pts_nil)
      (fun _ _ _ _ _ => peb_clB G hr (by decide) rfl (pa_cons (pv 0) (pa_cons (pv 1) pa_nil)))) pab_nil)))), ?_⟩
    obtain ⟨xs0, hx0⟩ := hJ.lst
    refine ⟨_, rfl, j, 7, n, rfl, hJ, by omega, by decide, by decide, fun r H1 h0 h1 J1 k1 => ⟨_, rfl, by omega, by omega, fun D1 hD => ?_⟩⟩
    obtain ⟨xs1, hx1⟩ := J1.lst
    have nDj : D1 ≠ j := fun e => by rw [e, hx1] at hD; cases hD
    refine lcB_it (walk_range (lo := 0) (n := r.toNat)) (fun i b H' => ∃ (ps : List Addr) (sts : List Stp), H' D1 = some (.lst (ps.map V.ref)) ∧ AlB b H' ps sts ∧ sts.length = i ∧ JarAt H' j (n + 1 + 50 * i) ∧ Kp j H H')
      ⟨[], [], upd_same, .nil, rfl, J1.new hD, k1.new hD⟩ (fun _ _ _ _ _ => trivial) ?_ ?_
    · rintro i x b H2 H3 hi ⟨ps, sts, hD2, al, hl, J2, k2⟩ ⟨rfl, rfl⟩
      obtain ⟨xs3, hx3⟩ := J2.lst
      refine ⟨rfl, _, rfl, _, rfl, j, _, l, rfl, J2, hG, by omega, fun b' p st H4 np ok hst J4 k4 => ?_⟩
      have hD4 : H4 D1 = some (.lst (ps.map V.ref)) := k4 D1 _ nDj hD2
      have kD : ∀ o, Kp D1 H4 (L2.upd H4 D1 o) := fun o => .upd
      refine ⟨_, hD4, by rw [List.length_map, al.al.len, sizeLine_eq]; omega, ps ++ [p], sts ++ [st], ?_, ?_, by rw [List.length_append, hl]; rfl, ?_, ?_⟩
      · rw [upd_same, List.map_append]; rfl
      · exact AlB.snoc ((hst.kp (kD _) hD4).mono (Nat.le_max_right _ _)) ok (((al.kp k4 hx3).kp (kD _) hD4).mono (Nat.le_max_left _ _))
      · obtain ⟨a', b', c', e1, e2⟩ := J4.le (show n + 1 + 50 * i + 50 ≤ n + 1 + 50 * (i + 1) by omega)
        exact ⟨a', b', c', by rw [upd_ne nDj.symm]; exact e1, e2⟩
      · intro b o nb hb
        rw [upd_ne (ne_of_none (k1 b o nb hb) hD)]; exact (k2.trans k4) b o nb hb
    · rintro b H2 ⟨ps, sts, hD2, al, hl, J2, k2⟩
      refine ⟨D1, _, rfl, .inl ⟨SqL.of hD2, fun t ht => ?_⟩⟩
      have kt : Ext H2 (L2.upd H2 t (.tup (ps.map V.ref))) := Ext.refl.new ht
      exact q b t sts _ (k2.none ht ⟨_, hx0⟩ J2.lst) (by omega) ⟨ps, SqT.of upd_same, al.ext kt⟩ ((J2.ext kt).le (by omega)) (k2.trans kt.kp)
theorem rowB_drop' {b : Nat} {σ : L2.St} {H : Hp} {r : Addr} {sts : List Stp} {k : Int} {Q : VK} (hR : RowB K b H r sts) (h0 : 0 ≤ k) (q : ∀ r' H', Ext H H' → RowB K b H' r' (sts.drop k.toNat) → Q (.ref r') H') : tNoPart σ H fun u H3 => rSlA K (.ref r) (some k) u H3 Q := rowB_drop hR h0 q
theorem ok_udoors {f : Addr} {fd : FuncData} (F : Fun K "_law_doors" "_law_doors" sLawDoors f fd) (T : Nms mg) (D : Cl P w K mg base 1 "_law_draw" spDraw) (G : ClB P w K mg base 3 "_law_step" spUstep) (G2 : ClB P w K mg base 4 "_law_steps" (spUrow K)) : FnU P w K mg base 5 f (spUdoors K) := by
  refine fnU_ofB F scLawDoors (fun kV doc pm an cdv ct us hl => match us, hl with | [_, _], _ => rfl) (fun vs H Q h => ?_) (fun cdv A outer s H vs Q E hr h => ?_)
  · obtain ⟨j, n, l, rfl, _⟩ := h
    rfl
  · obtain ⟨j, n, l, rfl, hJ, hG, hn, q⟩ := h
    have nd := scLawDoors.nd
    refine ⟨_, PSsB.nox (pssb_cons (psb_par (i := 2) (j := 3) rfl nd rfl rfl (by decide) rfl rfl (pab_cons (peb_clB G2 hr (by decide) rfl (pa_cons (pv 0) (pa_cons (pv 1) pa_nil))) (pab_cons (peb0 (pe_lst pa_nil)) pab_nil)) (by rfl))
      (pssb_cons (psb_for PassesOwn.never rfl (pi_range1 rfl T.range (pa_cons pe_int pa_nil)) (pg_name (i := 4) nd rfl (Or.inl rfl))
        (pssb_cons (psb0 (ps_par (i := 5) (j := 6) rfl nd rfl rfl (by decide) rfl rfl (pa_cons (pe_cl D hr (by decide) rfl (pa_cons (pv 0) (pa_cons pe_int pa_nil))) (pa_cons (pe_cl D hr (by decide) rfl (pa_cons (pv 0) (pa_cons (pe_op op_add (pe_callB call_len_seq (by rfl) T.len PySem.boot_len (pa_cons (pv 2) pa_nil)) pe_int) pa_nil))) pa_nil)) (by rfl)))
        (pssb_cons (psb0 (ps_set (i := 7) nd rfl (Or.inl rfl) (pv 2)))
        (pssb_cut (psb_if (fun _ => ptn (pt_cmpR op_eq (pv 5) pe_int (nomark _)))
            (pssb0 (pss_one (ps_set (i := 7) nd rfl (Or.inl rfl) (pe_op op_catA (pe_slice sl_tupA (pv 2) po_none (po_some (pv 6))) (pe_slice sl_tupA (pv 2) (po_some (pe_op op_add (pv 6) pe_int)) po_none)))))
            (pssb_one (psb_if (fun _ => ptn (PW.pt (pw_and (pt_cmpR op_eq (pv 5) pe_int (nomark _)) (pw_and1 (pt_cmpR op_lt (pe_callB call_len_seq (by rfl) T.len PySem.boot_len (pa_cons (pv 2) pa_nil)) pe_int (nomark _))))))
              (pssb_one (psb_set (i := 7) nd rfl (Or.inl rfl) (peb_op op_catA (peb_op op_catA (peb0 (pe_slice sl_tupA (pv 2) po_none (po_some (pv 6)))) (peb_tup (pab_cons (peb_clB G hr (by decide) rfl (pa_cons (pv 0) (pa_cons (pv 1) pa_nil))) pab_nil))) (peb0 (pe_slice sl_tupA (pv 2) (po_some (pv 6)) po_none)))))
              (pssb_one (psb_if (fun _ => ptn (pt_cmpR op_eq (pv 5) pe_int (nomark _))) (pssb_one (psb_set (i := 7) nd rfl (Or.inl rfl) (peb_clB G2 hr (by decide) rfl (pa_cons (pv 0) (pa_cons (pv 1) pa_nil))))) pssb_nil)))))
        (pssb0 (pss_one (ps_expr (pe_bm PySem.F.plainAttrs_list PySem.F.slot_list_append PySem.F.type_list_append mt_append (pv 3) (pa_cons (pv 7) pa_nil)))))))))
      (pssb0 (pss_one (ps_ret (pv 3)))))), ?_⟩
    obtain ⟨xs0, hx0⟩ := hJ.lst
    refine ⟨_, rfl, _, rfl, j, n, l, rfl, hJ, hG, by omega, fun b0 r sts H1 nr h6 R1 J1 k1 => ⟨by show 0 ≤ sizeLine; decide, fun p hp => ⟨_, _, rfl, ?_⟩⟩⟩
    have kp1 : Kp j H (L2.upd H1 p (.lst [])) := k1.new hp
    have Rp := (R1.ext (Ext.refl.new (o := .lst []) hp)).mono (Nat.le_max_right 0 b0)
    have np : H p = none := k1.none hp ⟨_, hx0⟩ J1.lst
    obtain ⟨xs1, hx1⟩ := J1.lst
    have npj : p ≠ j := by rintro rfl; rw [hx1] at hp; cases hp
    refine ⟨4, rfl, by decide, by decide, ?_⟩
    refine forB_it (walk_range (lo := 0) (n := 4)) (fun i b σ H' => ∃ u4 u5 u6 u7 rs rws, σ = [some (.ref j), some (.str (S l)), some (.ref r), some (.ref p), u4, u5, u6, u7] ∧ H' p = some (.lst (rs.map V.ref)) ∧ RwB K b H' rs rws ∧ rws.length = i ∧ RowB K b H' r sts ∧ JarAt H' j (n + 400 + 500 * i) ∧ Kp j H H')
      ⟨_, _, _, _, [], [], rfl, upd_same, .nil, rfl, Rp, J1.new hp, kp1⟩ (fun _ _ _ _ _ _ => trivial) ?_ ?_
    · rintro i x b σ H2' H2 hi ⟨u4, u5, u6, u7, rs, rws, rfl, hp2, W2, hl2, R2, J2, k2⟩ ⟨rfl, rfl⟩
      refine ⟨_, rfl, j, 7, _, rfl, J2, by omega, by decide, by decide, fun way H3 hw0 hw1 J3 k3 => ?_⟩
      obtain ⟨xs2, hx2⟩ := J2.lst
      have R3 := R2.kp k3 hx2
      obtain ⟨ps3, hq3, al3⟩ := id R3
      refine ⟨_, rfl, _, rfl, r, _, rfl, .inr hq3, _, _, rfl, rfl, j, _, _, rfl, J3, by omega, ?_, ?_, fun k H4 hk0 hk1 J4 k4 => ?_⟩
      · rw [List.length_map, al3.al.len]; omega
      · rw [List.length_map, al3.al.len]; omega
      obtain ⟨xs3, hx3⟩ := J3.lst
      obtain ⟨xs4, hx4⟩ := J4.lst
      have k34 := k3.trans k4
      have R4 := R3.kp k4 hx3
      have W4 := W2.kp hx2 k34
      have hp4 := k34 p _ npj hp2
      have k24 := k2.trans k34
      refine ⟨_, _, rfl, ?_⟩
      refine ⟨_, rfl, ?_⟩
      refine ⟨fun b' σ' H' => ∃ r' sts', σ' = [some (.ref j), some (.str (S l)), some (.ref r), some (.ref p), some (.int (0 + (i : Nat))), some (.int way), some (.int k), some (.ref r')] ∧ sts'.length ≤ 6 ∧ RowB K b' H' r' sts' ∧ H' p = some (.lst (rs.map V.ref)) ∧ RwB K b' H' rs rws ∧ RowB K b' H' r sts ∧ JarAt H' j (n + 400 + 500 * i + 500) ∧ Kp j H H', ?_, ?_⟩
      · refine ⟨_, rfl, rfl, _, rfl, ite2 (fun _ => ?_) (fun _ => ?_)⟩
        · refine ⟨_, rfl, _, rfl, k, rfl, rowB_take (σ := []) R4 hk0 fun r1 H5 k5 R5 => ?_⟩
          refine ⟨_, rfl, _, rfl, _, _, rfl, rfl, _, rfl, ?_⟩
          refine rowB_drop' (K := K) (R4.ext k5) (by omega) fun r2 H6 k6 R6 => ?_
          refine rowB_cat (R5.ext k6) R6 (by rw [List.length_take, List.length_drop]; omega) fun r3 H7 k7 R7 => ?_
          have k57 := (k5.trans k6).trans k7
          exact ⟨r3, _, rfl, by rw [List.length_append, List.length_take, List.length_drop]; omega, R7, k57 p _ hp4, W4.ext k57, R4.ext k57, (J4.ext k57).le (by omega), k24.trans k57.kp⟩
        · have fin : ∃ r' sts', ([some (.ref j), some (.str (S l)), some (.ref r), some (.ref p), some (.int (0 + (i : Nat))), some (.int way), some (.int k), some (.ref r)] : L2.St) = [some (.ref j), some (.str (S l)), some (.ref r), some (.ref p), some (.int (0 + (i : Nat))), some (.int way), some (.int k), some (.ref r')] ∧ sts'.length ≤ 6 ∧ RowB K b H4 r' sts' ∧ H4 p = some (.lst (rs.map V.ref)) ∧ RwB K b H4 rs rws ∧ RowB K b H4 r sts ∧ JarAt H4 j (n + 400 + 500 * i + 500) ∧ Kp j H H4 :=
            ⟨r, sts, rfl, h6, R4, hp4, W4, R4, J4.le (by omega), k24⟩
          refine ⟨_, rfl, rfl, _, rfl, ?_⟩
          by_cases h5 : V.int way = V.int 5
          · rw [decide_eq_true h5]
            obtain ⟨ps4, hq4, al4⟩ := id R4
            refine iteT ⟨_, rfl, r, _, rfl, .inr hq4, _, _, rfl, rfl, _, rfl, ?_⟩
            rw [List.length_map, al4.al.len]
            by_cases hl6 : sts.length < 6
            · rw [decide_eq_true (show ((sts.length : Nat) : Int) < 6 by omega)]
              refine iteT ⟨_, rfl, _, rfl, k, rfl, rowB_take (σ := []) R4 hk0 fun r1 H5 k5 R5 => ?_⟩
              refine ⟨_, rfl, _, rfl, j, _, l, rfl, J4.ext k5, hG, by omega, fun b6 s st H6 ns hok hst J6 k6 => ?_⟩
              refine ⟨by show 1 ≤ sizeLine; decide, fun t ht => ?_⟩
              have hx5 : H5 j = some (.lst xs4) := k5 j _ hx4
              have kt : Ext H6 (L2.upd H6 t (.tup [.ref s])) := Ext.refl.new ht
              have lm : b ≤ max b b6 := Nat.le_max_left _ _
              have R7 : RowB K (max b b6) (L2.upd H6 t (.tup [.ref s])) t [st] := ⟨[s], SqT.of upd_same, .cons ((hst.ext kt).mono (Nat.le_max_right _ _)) hok .nil⟩
              refine rowB_cat (((R5.kp k6 hx5).ext kt).mono lm) R7 (by rw [List.length_take]; show _ + 1 ≤ 1000; omega) fun r3 H7 k7 R7' => ?_
              have R4' : RowB K (max b b6) H7 r sts := ((((R4.ext k5).kp k6 hx5).ext kt).ext k7).mono lm
              refine ⟨_, rfl, _, rfl, k, rfl, ?_⟩
              refine rowB_drop' (K := K) R4' hk0 fun r4 H8 k8 R8 => ?_
              refine rowB_cat (R7'.ext k8) R8 (by rw [List.length_append, List.length_take, List.length_drop]; show _ + 1 + _ ≤ 1000; omega) fun r5 H9 k9 R9 => ?_
              have kk : Ext H6 H9 := (((kt.trans k7).trans k8).trans k9)
              refine ⟨r5, _, rfl, ?_, R9, kk p _ (k6 p _ npj (k5 p _ hp4)), (((W4.ext k5).kp hx5 k6).ext kk).mono lm, (R4'.ext k8).ext k9, (J6.ext kk).le (by omega), ((k24.trans k5.kp).trans k6).trans kk.kp⟩
              rw [List.length_append, List.length_append, List.length_take, List.length_drop]
              show _ + 1 + _ ≤ 6
              omega
            · rw [decide_eq_false (show ¬ ((sts.length : Nat) : Int) < 6 by omega)]
              refine iteF ⟨_, rfl, rfl, _, rfl, ite2 (fun e => ?_) (fun _ => fin)⟩
              have e := of_decide_eq_true e
              rw [h5] at e
              exact absurd e (by decide +kernel)
          · rw [decide_eq_false h5]
            refine iteF (iteF ⟨_, rfl, rfl, _, rfl, ite2 (fun _ => ?_) (fun _ => fin)⟩)
            refine ⟨_, rfl, _, rfl, j, _, l, rfl, J4, hG, by omega, fun b5 r5 sts5 H5 nr5 h65 R5 J5 k5 => ?_⟩
            have lm : b ≤ max b b5 := Nat.le_max_left _ _
            exact ⟨r5, sts5, rfl, h65, R5.mono (Nat.le_max_right _ _), k5 p _ npj hp4, (W4.kp hx4 k5).mono lm, (R4.kp k5 hx4).mono lm, J5.le (by omega), k24.trans k5⟩
      · rintro b5 σ' H5 ⟨r', sts', rfl, h6', R5, hp5, W5, Rr5, J5, k5⟩
        refine ⟨_, rfl, .inl ⟨rfl, _, SqL.of hp5⟩, _, rfl, p, _, _, rfl, rfl, hp5, by rw [List.length_map, W5.len, hl2, sizeLine_eq]; omega, ?_⟩
        have kq : Kp p H5 (L2.upd H5 p (.lst (rs.map V.ref ++ [.ref r']))) := .upd
        refine ⟨_, _, _, _, rs ++ [r'], rws ++ [sts'], rfl, ?_, RwB.snoc (R5.kp kq hp5) h6' (W5.kp hp5 kq), by rw [List.length_append, hl2]; rfl, Rr5.kp kq hp5, ?_, ?_⟩
        · rw [upd_same, List.map_append]; rfl
        · obtain ⟨a', b', c', e1, e2⟩ := J5.le (show n + 400 + 500 * i + 500 ≤ n + 400 + 500 * (i + 1) by omega)
          exact ⟨a', b', c', by rw [upd_ne npj.symm]; exact e1, e2⟩
        · intro b o nb hb
          have nbp : b ≠ p := by rintro rfl; rw [np] at hb; cases hb
          rw [upd_ne nbp]; exact k5 b o nb hb
    · rintro b σ H2 ⟨u4, u5, u6, u7, rs, rws, rfl, hp2, W2, hl2, R2, J2, k2⟩
      exact ⟨_, rfl, q b p rs rws H2 np ⟨hp2, W2, hl2⟩ (J2.le (by omega)) k2⟩
end
end Pd

set_option maxHeartbeats 4000000
namespace Pd
open PySem PySem.Spec PyProof.Rows L2 SX
/-! ### a heap in which a few lists, dicts and shelves may have changed -/
def shF (d t : Addr) (n : Nat) (p : Addr) : List (Str × V) := [("_doors", .ref d), ("_table", .ref t), ("_turn", .int (n : Nat)), ("_past", .ref p)]
def MutO (o : HO) : Prop := (∃ xs, o = .lst xs) ∨ (∃ ds, o = .dK ds) ∨ ∃ C dx d t n p, o = .ins C dx (shF d t n p)
def KpL (js : List Addr) (H H' : Hp) : Prop := ∀ b o, b ∉ js → H b = some o → H' b = some o
theorem KpL.refl {js : List Addr} {H : Hp} : KpL js H H := fun _ _ _ h => h
theorem KpL.trans {js : List Addr} {H H' H'' : Hp} (a : KpL js H H') (b : KpL js H' H'') : KpL js H H'' := fun c o n h => b c o n (a c o n h)
theorem KpL.of {js : List Addr} {j : Addr} {H H' : Hp} (hj : j ∈ js) (k : Kp j H H') : KpL js H H' := fun b o n h => k b o (by rintro rfl; exact n hj) h
theorem KpL.ext {js : List Addr} {H H' : Hp} (k : Ext H H') : KpL js H H' := fun b o _ h => k b o h
theorem KpL.mono {js ks : List Addr} {H H' : Hp} (k : KpL js H H') (s : ∀ j ∈ js, j ∈ ks) : KpL ks H H' := fun b o n h => k b o (fun z => n (s b z)) h
theorem KpL.upd {js : List Addr} {j : Addr} {H : Hp} {o : HO} (hj : j ∈ js) : KpL js H (L2.upd H j o) := .of hj .upd
theorem KpL.new {js : List Addr} {l : Addr} {H H' : Hp} {o : HO} (a : KpL js H H') (hl : H' l = none) : KpL js H (L2.upd H' l o) := a.trans (.ext (Ext.refl.new hl))
/-- what was not there may change too -/
theorem KpL.cut {js ks : List Addr} {H H' : Hp} (k : KpL ks H H') (s : ∀ j ∈ ks, j ∈ js ∨ H j = none) : KpL js H H' := fun b o n h => k b o (fun z => by
  rcases s b z with z | z
  · exact n z
  · rw [h] at z; cases z) h
theorem KpL.ne {js : List Addr} {H H' : Hp} {a : Addr} (k : KpL js H H') (h : H' a = none) (n : a ∉ js) : H a = none := by
  cases e : H a with
  | none => rfl
  | some o => rw [k a o n e] at h; cases h
/-- what may change is a list, a dict or a shelf -/
def ChgM (H : Hp) (js : List Addr) : Prop := ∀ j ∈ js, ∃ o, H j = some o ∧ MutO o
theorem mut_tup {xs : List V} : ¬ MutO (.tup xs) := by
  rintro (⟨_, z⟩ | ⟨_, z⟩ | ⟨_, _, _, _, _, _, z⟩) <;> cases z
theorem mut_frz {o : Obj} {u : HO} : ¬ MutO (.frz o u) := by
  rintro (⟨_, z⟩ | ⟨_, z⟩ | ⟨_, _, _, _, _, _, z⟩) <;> cases z
theorem mut_ins {C dx : Addr} {x : Str} {v : V} {fs : List (Str × V)} (n : x ≠ "_doors") : ¬ MutO (.ins C dx ((x, v) :: fs)) := by
  rintro (⟨_, z⟩ | ⟨_, z⟩ | ⟨_, _, _, _, _, _, z⟩)
  · cases z
  · cases z
  · injection z with _ _ z
    injection z with z _
    exact n (congrArg Prod.fst z)
theorem kept {js : List Addr} {H H' : Hp} {a : Addr} {o : HO} (k : KpL js H H') (c : ChgM H js) (e : H a = some o) (n : ¬ MutO o) : H' a = some o := by
  refine k a o (fun z => ?_) e
  obtain ⟨o', e', m⟩ := c a z
  rw [e] at e'; cases e'
  exact n m
theorem StpAt.noMut {H : Hp} {p : Addr} {st : Stp} (h : StpAt H p st) {o : HO} (e : H p = Option.some o) : ¬ MutO o := by
  cases st with
  | swap a b =>
    obtain ⟨n, t0, t, u, e', _⟩ := h
    rw [e] at e'; cases e'; exact mut_frz
  | low => rw [show H p = _ from h] at e; cases e; exact mut_tup
  | drop _ => rw [show H p = _ from h] at e; cases e; exact mut_tup
  | lead _ => rw [show H p = _ from h] at e; cases e; exact mut_tup
  | once _ =>
    rcases h with h | ⟨o, h⟩
    · rw [h] at e; cases e; exact mut_tup
    · rw [h] at e; cases e; exact mut_frz
  | cut _ => rw [show H p = _ from h] at e; cases e; exact mut_tup
theorem Al.kpL {H H' : Hp} {js : List Addr} {ps : List Addr} {sts : List Stp} (h : Al H ps sts) (k : KpL js H H') (c : ChgM H js) : Al H' ps sts := h.same fun p hp o x => by
  obtain ⟨st, hst⟩ := h.mem hp
  exact kept k c x (hst.noMut x)
theorem AlB.kpL {b : Nat} {H H' : Hp} {js : List Addr} (k : KpL js H H') (c : ChgM H js) : ∀ {ps : List Addr} {sts : List Stp}, AlB b H ps sts → AlB b H' ps sts
  | _, _, .nil => .nil
  | _, _, .cons h ok r => .cons (h.same fun o x => kept k c x (h.1.noMut x)) ok (r.kpL k c)
section
variable {K : PySem.W.Frag}
theorem sqT_kpL {H H' : Hp} {js : List Addr} {a : Addr} {xs : List V} (h : SqT K H a xs) (k : KpL js H H') (c : ChgM H js) : SqT K H' a xs := by
  rcases h with (h | ⟨o, h⟩) | h
  · exact .inl (.inl (kept k c h mut_tup))
  · exact .inl (.inr ⟨o, kept k c h mut_frz⟩)
  · exact .inr h
theorem RowAt.kpL {H H' : Hp} {js : List Addr} {r : Addr} {sts : List Stp} (h : RowAt K H r sts) (k : KpL js H H') (c : ChgM H js) : RowAt K H' r sts := by
  obtain ⟨ps, e, a⟩ := h
  exact ⟨ps, sqT_kpL e k c, a.kpL k c⟩
theorem RowB.kpL {b : Nat} {H H' : Hp} {js : List Addr} {r : Addr} {sts : List Stp} (h : RowB K b H r sts) (k : KpL js H H') (c : ChgM H js) : RowB K b H' r sts := by
  obtain ⟨ps, e, a⟩ := h
  exact ⟨ps, sqT_kpL e k c, a.kpL k c⟩
theorem FoldAt.kpL {C : Addr} {H H' : Hp} {js : List Addr} {o r : Addr} {sts : List Stp} (h : FoldAt K C H o r sts) (k : KpL js H H') (c : ChgM H js) : FoldAt K C H' o r sts := by
  obtain ⟨⟨dx, e⟩, a, l⟩ := h
  exact ⟨⟨dx, kept k c e (mut_ins (by decide +kernel))⟩, a.kpL k c, l⟩
theorem DrAt.kpL {C CD : Addr} {H H' : Hp} {js : List Addr} {d o1 o2 o3 o4 r1 r2 r3 r4 : Addr} {s1 s2 s3 s4 : List Stp} (h : DrAt K C CD H d o1 o2 o3 o4 r1 r2 r3 r4 s1 s2 s3 s4) (k : KpL js H H') (c : ChgM H js) : DrAt K C CD H' d o1 o2 o3 o4 r1 r2 r3 r4 s1 s2 s3 s4 := by
  obtain ⟨dx, e⟩ := h.ins
  exact ⟨⟨dx, kept k c e (mut_ins (by decide +kernel))⟩, h.f1.kpL k c, h.f2.kpL k c, h.f3.kpL k c, h.f4.kpL k c⟩
theorem RwB.kpL {b : Nat} {H H' : Hp} {js : List Addr} (k : KpL js H H') (c : ChgM H js) : ∀ {rs : List Addr} {rws : List (List Stp)}, RwB K b H rs rws → RwB K b H' rs rws
  | _, _, .nil => .nil
  | _, _, .cons h l t => .cons (h.kpL k c) l (t.kpL k c)
theorem JarAt.kpL {H H' : Hp} {js : List Addr} {j : Addr} {n : Nat} (h : JarAt H j n) (k : KpL js H H') (nj : j ∉ js) : JarAt H' j n := by
  obtain ⟨a, b, c, h1, r⟩ := h
  exact ⟨a, b, c, k j _ nj h1, r⟩
end
/-! ### a table: forms, turns, first texts -/
abbrev Row3 := List Nat × Nat × List Nat
def kyS (l : List Nat) : Key := .inr (S l)
theorem kyS_inj {a b : List Nat} (h : kyS a = kyS b) : a = b := by
  injection h with h
  exact SX.S_inj h
def RowIs (H : Hp) (kv : Key × V) (r : Row3) : Prop := kv.1 = kyS r.1 ∧ ∃ p, kv.2 = .ref p ∧ H p = some (.tup [.int (r.2.1 : Nat), .str (S r.2.2)])
inductive KR (H : Hp) : List (Key × V) → List Row3 → Prop where
  | nil : KR H [] []
  | cons {kv : Key × V} {r : Row3} {kvs : List (Key × V)} {R : List Row3} (h : RowIs H kv r) (t : KR H kvs R) : KR H (kv :: kvs) (r :: R)
def forms (R : List Row3) : List (List Nat) := R.map (·.1)
def TabAt (H : Hp) (d : Addr) (R : List Row3) : Prop := ∃ kvs R', H d = some (.dK kvs) ∧ KR H kvs R' ∧ R'.Perm R
structure RowsOk (R : List Row3) (n : Nat) : Prop where
  nd : (forms R).Nodup
  asc : R.Pairwise fun a b => a.2.1 < b.2.1
  lt : ∀ r ∈ R, r.2.1 < n
  good : ∀ r ∈ R, Good r.1 ∧ Good r.2.2
section
variable {H H' : Hp}
theorem KR.same (k : ∀ p xs, H p = some (.tup xs) → H' p = some (.tup xs)) : ∀ {kvs : List (Key × V)} {R : List Row3}, KR H kvs R → KR H' kvs R
  | _, _, .nil => .nil
  | _, _, .cons ⟨e, p, e1, e2⟩ t => .cons ⟨e, p, e1, k p _ e2⟩ (t.same k)
theorem KR.len : ∀ {kvs : List (Key × V)} {R : List Row3}, KR H kvs R → kvs.length = R.length
  | _, _, .nil => rfl
  | _, _, .cons _ t => congrArg (· + 1) t.len
theorem KR.keys : ∀ {kvs : List (Key × V)} {R : List Row3}, KR H kvs R → kvs.map (·.1) = (forms R).map kyS
  | _, _, .nil => rfl
  | _, _, .cons (kv := kv) (r := r) (kvs := kvs) (R := R) h t => by
    show kv.1 :: kvs.map (·.1) = kyS r.1 :: (forms R).map kyS
    rw [h.1, t.keys]
theorem KR.none {g : List Nat} : ∀ {kvs : List (Key × V)} {R : List Row3}, KR H kvs R → g ∉ forms R → valV kvs (kyS g) = Option.none
  | _, _, .nil, _ => rfl
  | _, _, .cons (kv := kv) (r := r) h t, n => by
    have n1 : g ≠ r.1 := fun e => n (e ▸ List.mem_cons_self ..)
    rw [valV_neg (by rw [h.1]; exact fun e => n1 (kyS_inj e).symm)]
    exact t.none fun z => n (List.mem_cons_of_mem _ z)
theorem KR.some {g : List Nat} : ∀ {kvs : List (Key × V)} {R : List Row3}, KR H kvs R → g ∈ forms R → ∃ r p, r ∈ R ∧ r.1 = g ∧ valV kvs (kyS g) = Option.some (.ref p) ∧ H p = Option.some (.tup [.int (r.2.1 : Nat), .str (S r.2.2)])
  | _, _, .nil, n => nomatch n
  | _, _, .cons (kv := kv) (r := r) h t, n => by
    obtain ⟨e, p, e1, e2⟩ := h
    by_cases n1 : g = r.1
    · exact ⟨r, p, List.mem_cons_self .., n1.symm, by rw [valV_pos (by rw [e, n1]), e1], e2⟩
    · rcases List.mem_cons.mp n with z | z
      · exact absurd z n1
      · obtain ⟨r', p', a, b, c, d⟩ := t.some z
        exact ⟨r', p', List.mem_cons_of_mem _ a, b, by rw [valV_neg (by rw [e]; exact fun z => n1 (kyS_inj z).symm)]; exact c, d⟩
theorem KR.snoc {kv : Key × V} {r : Row3} (h : RowIs H kv r) : ∀ {kvs : List (Key × V)} {R : List Row3}, KR H kvs R → KR H (kvs ++ [kv]) (R ++ [r])
  | _, _, .nil => .cons h .nil
  | _, _, .cons h' t => .cons h' (t.snoc h)
theorem KR.drop {g : List Nat} : ∀ {kvs : List (Key × V)} {R : List Row3}, KR H kvs R → KR H (dropK kvs (kyS g)) (R.filter fun r => decide (r.1 ≠ g))
  | _, _, .nil => .nil
  | _, _, .cons (kv := kv) (r := r) (kvs := kvs) (R := R) h t => by
    have ih := t.drop (g := g)
    unfold dropK at ih ⊢
    by_cases n1 : r.1 = g
    · rw [List.filter_cons_of_neg (by rw [h.1, n1]; simp), List.filter_cons_of_neg (by rw [n1]; simp)]
      exact ih
    · rw [List.filter_cons_of_pos (by rw [h.1]; exact decide_eq_true fun e => n1 (kyS_inj e)), List.filter_cons_of_pos (by simpa using n1)]
      exact .cons h ih
end
theorem forms_perm {R R' : List Row3} (p : R'.Perm R) {g : List Nat} : g ∈ forms R' ↔ g ∈ forms R := (p.map (·.1)).mem_iff
theorem row_uniq {R : List Row3} (nd : (forms R).Nodup) {a b : Row3} (ha : a ∈ R) (hb : b ∈ R) (e : a.1 = b.1) : a = b := by
  induction R with
  | nil => cases ha
  | cons r R ih =>
    have nd' := List.nodup_cons.mp (show (r.1 :: forms R).Nodup from nd)
    rcases List.mem_cons.mp ha with h1 | h1
    · rcases List.mem_cons.mp hb with h2 | h2
      · rw [h1, h2]
      · exact absurd (show r.1 ∈ forms R from List.mem_map.mpr ⟨b, h2, by rw [← h1]; exact e.symm⟩) nd'.1
    · rcases List.mem_cons.mp hb with h2 | h2
      · exact absurd (show r.1 ∈ forms R from List.mem_map.mpr ⟨a, h1, by rw [← h2]; exact e⟩) nd'.1
      · exact ih nd'.2 h1 h2
section
variable {H H' : Hp} {d : Addr} {R : List Row3} {g : List Nat}
theorem TabAt.kpL {js : List Addr} (h : TabAt H d R) (k : KpL js H H') (c : ChgM H js) (n : d ∉ js) : TabAt H' d R := by
  obtain ⟨kvs, R', e, r, p⟩ := h
  exact ⟨kvs, R', k d _ n e, r.same (fun q xs z => kept k c z mut_tup), p⟩
theorem TabAt.ext (h : TabAt H d R) (k : Ext H H') : TabAt H' d R := by
  obtain ⟨kvs, R', e, r, p⟩ := h
  exact ⟨kvs, R', k d _ e, r.same (fun q xs z => k q _ z), p⟩
theorem TabAt.perm {R2 : List Row3} (h : TabAt H d R) (p : R.Perm R2) : TabAt H d R2 := by
  obtain ⟨kvs, R', e, r, q⟩ := h
  exact ⟨kvs, R', e, r, q.trans p⟩
/-- what a look at a table tells -/
theorem TabAt.look (h : TabAt H d R) (nd : (forms R).Nodup) : ∃ kvs, H d = some (.dK kvs) ∧ kvs.length = R.length ∧ (g ∉ forms R → valV kvs (kyS g) = none) ∧ (∀ r ∈ R, r.1 = g → ∃ p, valV kvs (kyS g) = some (.ref p) ∧ H p = some (.tup [.int (r.2.1 : Nat), .str (S r.2.2)])) := by
  obtain ⟨kvs, R', e, r, q⟩ := h
  refine ⟨kvs, e, r.len.trans q.length_eq, fun n => r.none fun z => n ((forms_perm q).mp z), fun a ha ea => ?_⟩
  obtain ⟨r', p, h1, h2, h3, h4⟩ := r.some ((forms_perm q).mpr (List.mem_map.mpr ⟨a, ha, ea⟩))
  have z := row_uniq nd ha (q.mem_iff.mp h1) (ea.trans h2.symm)
  subst z
  exact ⟨p, h3, h4⟩
theorem TabAt.put (h : TabAt H d R) (n : g ∉ forms R) {t : Nat} {x : List Nat} {p : Addr} (hp : H p = some (.tup [.int (t : Nat), .str (S x)])) : ∃ kvs, H d = some (.dK kvs) ∧ kvs.length = R.length ∧ TabAt (upd H d (.dK (putK kvs (kyS g) (.ref p)))) d (R ++ [(g, t, x)]) := by
  obtain ⟨kvs, R', e, r, q⟩ := h
  have en := r.none fun z => n ((forms_perm q).mp z)
  have sm : ∀ b xs, H b = some (.tup xs) → (upd H d (.dK (putK kvs (kyS g) (.ref p)))) b = some (.tup xs) := fun b xs z => by rw [upd_ne (by rintro rfl; rw [e] at z; cases z)]; exact z
  refine ⟨kvs, e, r.len.trans q.length_eq, kvs ++ [(kyS g, .ref p)], R' ++ [(g, t, x)], by rw [upd_same, putK_new _ en], (r.same sm).snoc ⟨rfl, p, rfl, sm p _ hp⟩, q.append_right _⟩
theorem TabAt.del (h : TabAt H d R) (n : g ∈ forms R) : ∃ kvs, H d = some (.dK kvs) ∧ (valV kvs (kyS g)).isSome = true ∧ TabAt (upd H d (.dK (dropK kvs (kyS g)))) d (R.filter fun r => decide (r.1 ≠ g)) := by
  obtain ⟨kvs, R', e, r, q⟩ := h
  obtain ⟨_, p, _, _, h3, _⟩ := r.some ((forms_perm q).mpr n)
  have sm : ∀ b xs, H b = some (.tup xs) → (upd H d (.dK (dropK kvs (kyS g)))) b = some (.tup xs) := fun b xs z => by rw [upd_ne (by rintro rfl; rw [e] at z; cases z)]; exact z
  exact ⟨kvs, e, by rw [h3]; rfl, dropK kvs (kyS g), _, upd_same, (r.same sm).drop, q.filter _⟩
end
end Pd

set_option maxHeartbeats 4000000
namespace Pd
open PySem PySem.Spec PyProof.Rows L2 SX
/-! ### a shelf: its doors, its table, its past -/
structure Dg where
  (o1 o2 o3 o4 r1 r2 r3 r4 : Addr) (s1 s2 s3 s4 : List Stp)
def DAt (K : PySem.W.Frag) (C CD : Addr) (H : Hp) (d : Addr) (g : Dg) : Prop := DrAt K C CD H d g.o1 g.o2 g.o3 g.o4 g.r1 g.r2 g.r3 g.r4 g.s1 g.s2 g.s3 g.s4
structure Pst where
  (tp d : Addr) (g : Dg) (t la ls : Addr) (added : List (List Nat)) (struck : List (Row3 × Addr × Addr)) (R : List Row3)
structure PstAt (K : PySem.W.Frag) (C CD : Addr) (H : Hp) (q : Pst) : Prop where
  tp : H q.tp = some (.tup [.ref q.d, .ref q.t, .ref q.la, .ref q.ls])
  doors : DAt K C CD H q.d q.g
  la : H q.la = some (.lst (q.added.map fun g => V.str (S g)))
  ls : H q.ls = some (.lst (q.struck.map fun x => V.ref x.2.1))
  pr : ∀ x ∈ q.struck, H x.2.1 = some (.tup [.str (S x.1.1), .ref x.2.2]) ∧ H x.2.2 = some (.tup [.int (x.1.2.1 : Nat), .str (S x.1.2.2)])
structure Rev (q : Pst) (R : List Row3) : Prop where
  ad : ∀ g ∈ q.added, g ∈ forms R
  nd : q.added.Nodup
  pm : ((R.filter fun r => decide (r.1 ∉ q.added)) ++ q.struck.map (·.1)).Perm q.R
def tabs (ps : List Pst) : List Addr := ps.map (·.t)
inductive Stk (K : PySem.W.Frag) (C CD : Addr) (H : Hp) : Addr → List Row3 → Nat → List Pst → Prop where
  | nil {t : Addr} {R : List Row3} {n : Nat} : Stk K C CD H t R n []
  | same {t : Addr} {R : List Row3} {n : Nat} {q : Pst} {ps : List Pst} (h : PstAt K C CD H q) (e : q.t = t) (r : Rev q R) (ok : RowsOk q.R n) (k : Stk K C CD H t q.R n ps) : Stk K C CD H t R n (q :: ps)
  | other {t : Addr} {R : List Row3} {n : Nat} {q : Pst} {ps : List Pst} (h : PstAt K C CD H q) (e1 : q.added = []) (e2 : q.struck = []) (tb : TabAt H q.t q.R) (ok : RowsOk q.R n) (ne : t ∉ tabs (q :: ps)) (k : Stk K C CD H q.t q.R n ps) : Stk K C CD H t R n (q :: ps)
structure Sh where
  (d : Addr) (g : Dg) (t : Addr) (n : Nat) (p : Addr) (R : List Row3) (st : List Pst)
def InsAt (CS : Addr) (H : Hp) (s d t : Addr) (n : Nat) (p : Addr) : Prop := ∃ dx, H s = some (.ins CS dx (shF d t n p))
structure ShAt (K : PySem.W.Frag) (C CD CS : Addr) (H : Hp) (s : Addr) (x : Sh) : Prop where
  ins : InsAt CS H s x.d x.t x.n x.p
  doors : DAt K C CD H x.d x.g
  tab : TabAt H x.t x.R
  rows : RowsOk x.R x.n
  past : H x.p = some (.lst ((x.st.reverse.map fun q => V.ref q.tp)))
  stk : Stk K C CD H x.t x.R x.n x.st
  dis : ∀ q ∈ x.st, q.la ≠ x.p ∧ q.ls ≠ x.p
def own (s : Addr) (x : Sh) : List Addr := s :: x.t :: x.p :: x.st.flatMap fun q => [q.la, q.ls, q.t]
theorem RowsOk.mono {R : List Row3} {n m : Nat} (h : RowsOk R n) (l : n ≤ m) : RowsOk R m := ⟨h.nd, h.asc, fun r z => Nat.lt_of_lt_of_le (h.lt r z) l, h.good⟩
theorem asc_len : ∀ {R : List Row3} {m n : Nat}, (∀ r ∈ R, m ≤ r.2.1 ∧ r.2.1 < n) → R.Pairwise (fun a b => a.2.1 < b.2.1) → m ≤ n → m + R.length ≤ n
  | [], m, n, _, _, l => l
  | r :: R, m, n, h, p, l => by
    obtain ⟨p1, p2⟩ := List.pairwise_cons.mp p
    obtain ⟨h1, h2⟩ := h r (List.mem_cons_self ..)
    have := asc_len (R := R) (m := m + 1) (n := n) (fun a ha => ⟨by have := p1 a ha; omega, (h a (List.mem_cons_of_mem _ ha)).2⟩) p2 (by omega)
    show m + (R.length + 1) ≤ n
    omega
theorem RowsOk.len {R : List Row3} {n : Nat} (h : RowsOk R n) : R.length ≤ n := by
  have := asc_len (m := 0) (fun r z => ⟨Nat.zero_le _, h.lt r z⟩) h.asc (Nat.zero_le _)
  omega
section
variable {K : PySem.W.Frag} {C CD CS : Addr} {H H' : Hp} {js : List Addr}
theorem DAt.kpL {d : Addr} {g : Dg} (h : DAt K C CD H d g) (k : KpL js H H') (c : ChgM H js) : DAt K C CD H' d g := DrAt.kpL h k c
theorem DAt.ext {d : Addr} {g : Dg} (h : DAt K C CD H d g) (k : Ext H H') : DAt K C CD H' d g := DrAt.ext h k
theorem PstAt.kpL {q : Pst} (h : PstAt K C CD H q) (k : KpL js H H') (c : ChgM H js) (n1 : q.la ∉ js) (n2 : q.ls ∉ js) : PstAt K C CD H' q :=
  ⟨kept k c h.tp mut_tup, h.doors.kpL k c, k _ _ n1 h.la, k _ _ n2 h.ls, fun x z => ⟨kept k c (h.pr x z).1 mut_tup, kept k c (h.pr x z).2 mut_tup⟩⟩
theorem Stk.kpL (k : KpL js H H') (c : ChgM H js) {n : Nat} : ∀ {ps : List Pst} {t : Addr} {R : List Row3}, Stk K C CD H t R n ps → (∀ q ∈ ps, q.la ∉ js ∧ q.ls ∉ js) → (∀ q ∈ ps, q.t = t ∨ q.t ∉ js) → Stk K C CD H' t R n ps
  | _, _, _, .nil, _, _ => .nil
  | _, _, _, .same h e r ok t, nl, nt =>
    .same (h.kpL k c (nl _ (List.mem_cons_self ..)).1 (nl _ (List.mem_cons_self ..)).2) e r ok (t.kpL k c (fun q z => nl q (List.mem_cons_of_mem _ z)) fun q z => nt q (List.mem_cons_of_mem _ z))
  | _, _, _, .other (q := q) (ps := ps) h e1 e2 tb ok ne t, nl, nt => by
    have nj : ∀ q' ∈ q :: ps, q'.t ∉ js := fun q' z => by
      rcases nt q' z with e | e
      · exact absurd (List.mem_map.mpr ⟨q', z, e⟩) ne
      · exact e
    exact .other (h.kpL k c (nl _ (List.mem_cons_self ..)).1 (nl _ (List.mem_cons_self ..)).2) e1 e2 (tb.kpL k c (nj q (List.mem_cons_self ..))) ok ne (t.kpL k c (fun q z => nl q (List.mem_cons_of_mem _ z)) fun q z => .inr (nj q (List.mem_cons_of_mem _ z)))
theorem Stk.mono {n m : Nat} (l : n ≤ m) : ∀ {ps : List Pst} {t : Addr} {R : List Row3}, Stk K C CD H t R n ps → Stk K C CD H t R m ps
  | _, _, _, .nil => .nil
  | _, _, _, .same h e r ok t => .same h e r (ok.mono l) (t.mono l)
  | _, _, _, .other h e1 e2 tb ok ne t => .other h e1 e2 tb (ok.mono l) ne (t.mono l)
theorem tab_mut {d : Addr} {R : List Row3} (h : TabAt H d R) : ∃ o, H d = some o ∧ MutO o := by
  obtain ⟨kvs, _, e, _⟩ := h
  exact ⟨_, e, .inr (.inl ⟨_, rfl⟩)⟩
theorem Stk.chg {n : Nat} : ∀ {ps : List Pst} {t : Addr} {R : List Row3}, Stk K C CD H t R n ps → (∃ o, H t = some o ∧ MutO o) → ∀ a ∈ ps.flatMap (fun q => [q.la, q.ls, q.t]), ∃ o, H a = some o ∧ MutO o
  | _, _, _, .nil, _, a, z => by simp at z
  | _, _, _, .same (q := q) h e r ok t, ht, a, z => by
    rw [List.flatMap_cons] at z
    rcases List.mem_append.mp z with z | z
    · simp only [List.mem_cons, List.mem_nil_iff, or_false] at z
      rcases z with rfl | rfl | rfl
      · exact ⟨_, h.la, .inl ⟨_, rfl⟩⟩
      · exact ⟨_, h.ls, .inl ⟨_, rfl⟩⟩
      · rw [e]; exact ht
    · exact t.chg ht a z
  | _, _, _, .other (q := q) h e1 e2 tb ok ne t, ht, a, z => by
    rw [List.flatMap_cons] at z
    rcases List.mem_append.mp z with z | z
    · simp only [List.mem_cons, List.mem_nil_iff, or_false] at z
      rcases z with rfl | rfl | rfl
      · exact ⟨_, h.la, .inl ⟨_, rfl⟩⟩
      · exact ⟨_, h.ls, .inl ⟨_, rfl⟩⟩
      · exact tab_mut tb
    · exact t.chg (tab_mut tb) a z
variable {s : Addr} {x : Sh}
theorem ShAt.chg (h : ShAt K C CD CS H s x) : ChgM H (own s x) := fun a z => by
  rcases List.mem_cons.mp z with rfl | z
  · obtain ⟨dx, e⟩ := h.ins
    exact ⟨_, e, .inr (.inr ⟨_, _, _, _, _, _, rfl⟩)⟩
  rcases List.mem_cons.mp z with rfl | z
  · exact tab_mut h.tab
  rcases List.mem_cons.mp z with rfl | z
  · exact ⟨_, h.past, .inl ⟨_, rfl⟩⟩
  · exact h.stk.chg (tab_mut h.tab) a z
theorem ShAt.dom (h : ShAt K C CD CS H s x) {a : Addr} (z : a ∈ own s x) : H a ≠ none := by
  obtain ⟨o, e, _⟩ := h.chg a z
  rw [e]; exact fun z => nomatch z
theorem own_s : s ∈ own s x := List.mem_cons_self ..
theorem own_t : x.t ∈ own s x := List.mem_cons_of_mem _ (List.mem_cons_self ..)
theorem own_p : x.p ∈ own s x := List.mem_cons_of_mem _ (List.mem_cons_of_mem _ (List.mem_cons_self ..))
theorem own_st {q : Pst} (h : q ∈ x.st) : q.la ∈ own s x ∧ q.ls ∈ own s x ∧ q.t ∈ own s x := by
  have z : ∀ a ∈ [q.la, q.ls, q.t], a ∈ own s x := fun a ha => List.mem_cons_of_mem _ (List.mem_cons_of_mem _ (List.mem_cons_of_mem _ (List.mem_flatMap.mpr ⟨q, h, ha⟩)))
  exact ⟨z _ (by simp), z _ (by simp), z _ (by simp)⟩
/-- a shelf stands where nothing of its own has changed -/
theorem ShAt.kpL (h : ShAt K C CD CS H s x) (k : KpL js H H') (c : ChgM H js) (n : ∀ a ∈ own s x, a ∉ js) : ShAt K C CD CS H' s x := by
  obtain ⟨dx, e⟩ := h.ins
  refine ⟨⟨dx, k _ _ (n _ own_s) e⟩, h.doors.kpL k c, h.tab.kpL k c (n _ own_t), h.rows, k _ _ (n _ own_p) h.past, h.stk.kpL k c (fun q z => ⟨n _ (own_st z).1, n _ (own_st z).2.1⟩) (fun q z => .inr (n _ (own_st z).2.2)), h.dis⟩
theorem ShAt.ext (h : ShAt K C CD CS H s x) (k : Ext H H') : ShAt K C CD CS H' s x := h.kpL (js := []) (.ext k) (fun _ z => nomatch z) fun _ _ z => nomatch z
theorem ShAt.ne (h : ShAt K C CD CS H s x) : s ≠ x.t ∧ s ≠ x.p ∧ x.t ≠ x.p := by
  obtain ⟨dx, e⟩ := h.ins
  obtain ⟨kvs, _, et, _⟩ := h.tab
  refine ⟨fun z => ?_, fun z => ?_, fun z => ?_⟩
  · rw [← z, e] at et; cases et
  · have := h.past; rw [← z, e] at this; cases this
  · have := h.past; rw [← z, et] at this; cases this
end
/-! ### what putting does -/
structure Pz where
  (R : List Row3) (n : Nat) (ans : List Bool) (added : List (List Nat))
def put1 (f : List Nat → List Nat) (z : Pz) (l : List Nat) : Pz :=
  if f l ∈ forms z.R then { z with ans := z.ans ++ [false] } else ⟨z.R ++ [(f l, z.n, l)], z.n + 1, z.ans ++ [true], z.added ++ [f l]⟩
def puts (f : List Nat → List Nat) (z : Pz) (ts : List (List Nat)) : Pz := ts.foldl (put1 f) z
theorem puts_take {f : List Nat → List Nat} {z : Pz} {ts : List (List Nat)} {i : Nat} {l : List Nat} (h : ts[i]? = some l) : puts f z (ts.take (i + 1)) = put1 f (puts f z (ts.take i)) l := by
  unfold puts
  rw [List.take_add_one, h, List.foldl_append]; rfl
structure PzOk (R : List Row3) (n : Nat) (z : Pz) (i : Nat) : Prop where
  new : ∃ N, z.R = R ++ N ∧ forms N = z.added
  ok : RowsOk z.R z.n
  le : n ≤ z.n ∧ z.n ≤ n + i
  len : z.ans.length = i
  al : z.added.length ≤ i
theorem forms_app {R N : List Row3} : forms (R ++ N) = forms R ++ forms N := List.map_append
theorem put1_ok {f : List Nat → List Nat} {R : List Row3} {n i : Nat} {z : Pz} {l : List Nat} (h : PzOk R n z i) (gf : Good (f l)) (gl : Good l) : PzOk R n (put1 f z l) (i + 1) := by
  unfold put1
  by_cases e : f l ∈ forms z.R
  · rw [if_pos e]
    exact ⟨h.new, h.ok, ⟨h.le.1, by have := h.le.2; show z.n ≤ _; omega⟩, by show (z.ans ++ [false]).length = _; rw [List.length_append, h.len]; rfl, by have := h.al; show z.added.length ≤ _; omega⟩
  · rw [if_neg e]
    obtain ⟨N, e1, e2⟩ := h.new
    refine ⟨⟨N ++ [(f l, z.n, l)], by show z.R ++ _ = _; rw [e1, List.append_assoc], by show forms (N ++ _) = z.added ++ _; rw [forms_app, e2]; rfl⟩, ⟨?_, ?_, ?_, ?_⟩, ⟨by have := h.le.1; show n ≤ z.n + 1; omega, by have := h.le.2; show z.n + 1 ≤ _; omega⟩, by show (z.ans ++ [true]).length = _; rw [List.length_append, h.len]; rfl, by have := h.al; show (z.added ++ [f l]).length ≤ _; rw [List.length_append]; show _ + 1 ≤ _; omega⟩
    · show (forms (z.R ++ _)).Nodup
      rw [forms_app, List.nodup_append]
      refine ⟨h.ok.nd, by show [f l].Nodup; simp, fun a ha b hb => ?_⟩
      have : b = f l := by simpa [forms] using hb
      rintro rfl
      exact e (this ▸ ha)
    · show (z.R ++ _).Pairwise _
      rw [List.pairwise_append]
      refine ⟨h.ok.asc, List.pairwise_singleton _ _, fun a ha b hb => ?_⟩
      rw [List.mem_singleton.mp hb]
      exact h.ok.lt a ha
    · intro r hr
      rcases List.mem_append.mp hr with hr | hr
      · have := h.ok.lt r hr; show _ < z.n + 1; omega
      · rw [List.mem_singleton.mp hr]; exact Nat.lt_succ_self _
    · intro r hr
      rcases List.mem_append.mp hr with hr | hr
      · exact h.ok.good r hr
      · rw [List.mem_singleton.mp hr]; exact ⟨gf, gl⟩
theorem puts_ok {f : List Nat → List Nat} {R : List Row3} {n : Nat} {ts : List (List Nat)} (h : RowsOk R n) (gf : ∀ l, Good l → Good (f l)) (gl : ∀ l ∈ ts, Good l) : ∀ i, i ≤ ts.length → PzOk R n (puts f ⟨R, n, [], []⟩ (ts.take i)) i
  | 0, _ => by rw [List.take_zero]; exact ⟨⟨[], (List.append_nil R).symm, rfl⟩, h, ⟨Nat.le_refl _, Nat.le_refl _⟩, rfl, Nat.le_refl _⟩
  | i + 1, hi => by
    have e : ts[i]? = some ts[i] := List.getElem?_eq_getElem hi
    rw [puts_take e]
    have g := gl ts[i] (List.getElem_mem hi)
    exact put1_ok (puts_ok h gf gl i (Nat.le_of_lt hi)) (gf _ g) g
theorem rev_put {R : List Row3} {n i : Nat} {z : Pz} (h : PzOk R n z i) {q : Pst} (e1 : q.added = z.added) (e2 : q.struck = []) (e3 : q.R = R) : Rev q z.R := by
  obtain ⟨N, r1, r2⟩ := h.new
  have nd := h.ok.nd
  rw [r1, forms_app, List.nodup_append] at nd
  refine ⟨fun g hg => ?_, ?_, ?_⟩
  · rw [e1, ← r2] at hg
    rw [r1, forms_app]; exact List.mem_append_right _ hg
  · rw [e1, ← r2]; exact nd.2.1
  · have a1 : R.filter (fun r => decide (r.1 ∉ z.added)) = R := List.filter_eq_self.mpr fun r hr => decide_eq_true fun z' => by
      rw [← r2] at z'
      exact nd.2.2 r.1 (List.mem_map.mpr ⟨r, hr, rfl⟩) r.1 z' rfl
    have a2 : N.filter (fun r => decide (r.1 ∉ z.added)) = [] := List.filter_eq_nil_iff.mpr fun r hr => by
      rw [← r2]
      have : r.1 ∈ forms N := List.mem_map.mpr ⟨r, hr, rfl⟩
      simp [this]
    rw [e1, e2, e3, r1, List.filter_append, a1, a2]
    simp
end Pd

set_option maxHeartbeats 4000000
namespace PySem.SeqAt
open AutoSeq1 (wpAny_loadPart')
open MeetsSeq MeetsSeq2 MeetsSeq3 SeqRoads2
section
variable {prog : Program} {w : World}
/-- tuple == tuple where the comparison of items may change the state -/
theorem tuple_eqJ (l b : Addr) (items items2 : Array Value) (n n2 : Nat) (dd dd2 : Option Addr) (sl sl2 : Array (Option Value)) (hsz : items.size = items2.size) (J : Nat → Shared → Prop) :
    MeetsIn prog w (Builtin.«tuple.__eq__» ⟨[.ref l, .ref b], []⟩)
      (fun A R s => s.heap.get? l = some { cls := .type "tuple", dict := dd, data := .seq items n, slots := sl } ∧ s.heap.get? b = some { cls := .type "tuple", dict := dd2, data := .seq items2 n2, slots := sl2 } ∧ J 0 s ∧
        (∀ j (h1 : j < items.size) (h2 : j < items2.size) (s1 : Shared), J j s1 → wpAny (model prog w) A.in1 (eqBool items[j] items2[j]) (fun t s2 => if t = true then J (j + 1) s2 else R (.ok (.ret (.bool false))) s2) (fun e s2 => R (.error e) s2) s1) ∧
        ∀ s1, J items.size s1 → R (.ok (.ret (.bool true))) s1) :=
  .of_wp fun A R s h => by
    obtain ⟨hp, g, d, tk, os⟩ := s; obtain ⟨hl, hb, h0, he, h⟩ := h
    have f2 := AutoSeq1.sub_tuple_tuple
    have hZ : (items.toList.zip items2.toList).length = items.size := by simp [hsz]
    wp_walk using wpAny_loadPart' hl, wpAny_loadPart' hb, wpAny_forIn_list _ (fun rest b s' => b.1 = none ∧ ∃ i, i ≤ items.size ∧ rest = (items.toList.zip items2.toList).drop i ∧ J i s') _
    case turn =>
      rintro ⟨y, x⟩ rest b s' ⟨hb', i, hle, hz, hR⟩
      have hlt : i < (items.toList.zip items2.toList).length := by
        rcases Nat.lt_or_ge i (items.toList.zip items2.toList).length with h' | h'
        · exact h'
        · rw [List.drop_of_length_le h'] at hz; cases hz
      have h1 : i < items.size := hZ ▸ hlt
      have h2 : i < items2.size := hsz ▸ h1
      rw [List.drop_eq_getElem_cons hlt] at hz
      injection hz with hyx hrest
      have hy : y = items[i] := by have := congrArg Prod.fst hyx; simpa using this
      have hx : x = items2[i] := by have := congrArg Prod.snd hyx; simpa using this
      subst hy hx
      refine wpAny_bind (wpAny_mono (he i h1 h2 s' hR) (fun t s2 hq => ?_) fun _ _ e => e)
      cases t with
      | true =>
        rw [if_pos rfl] at hq
        wp_walk
        exact ⟨rfl, i + 1, h1, hrest, hq⟩
      | false =>
        rw [if_neg Bool.false_ne_true] at hq
        wp_walk
        exact ⟨_, rfl, hq⟩
    case fin =>
      rintro ⟨b1, b2⟩ s' ⟨hb', i, hle, hz, hR⟩
      simp only at hb'
      subst hb'
      have hge : items.size ≤ i := by
        rcases Nat.lt_or_ge i (items.toList.zip items2.toList).length with h' | h'
        · rw [List.drop_eq_getElem_cons h'] at hz; cases hz
        · exact hZ ▸ h'
      obtain rfl : i = items.size := Nat.le_antisymm hle hge
      wp_walk
      exact ⟨_, rfl, by simpa [Builtin.Tuple.tupleCompareSizes, hsz] using h s' hR⟩
    case h =>
      exact ⟨rfl, 0, Nat.zero_le _, rfl, h0⟩
theorem eqBool_refs {A : Around} {E : Value → Shared → Prop} {s : Shared} {l b : Addr} {Q : Bool → Shared → Prop} (h1 : l = b → Q true s) (h2 : l ≠ b → wpAny (model prog w) A (richCompare .Eq (.ref l) (.ref b)) (fun v s' => ∃ k, v = .bool k ∧ Q k s') E s) : wpAny (model prog w) A (eqBool (.ref l) (.ref b)) Q E s := by
  unfold eqBool
  refine wpAny_holding ?_
  refine wpAny_ite_split (fun hab => ?_) (fun hab => ?_)
  · exact wpAny_bind (wpAny_rule (wpAny_pure (h1 (by have := eq_of_beq hab; injection this))))
  · refine wpAny_bind (wpAny_mono (h2 fun e => hab (by rw [e]; exact beq_self_eq_true _)) (fun v s' hv => ?_) fun _ _ e => e)
    obtain ⟨k, rfl, q⟩ := hv
    exact wpAny_truthy_bool q
end
end PySem.SeqAt
namespace Pd
open PySem PySem.Spec PySem.Calls PyProof.Rows L2 MeetsSeq
open PySem.W (InstAt Looks findIn subIn isFn looks_subIn looks_findIn notFirst)
/-! ### (a, b, ..) == (c, d, ..), items of one own class with an own __eq__ -/
def tAllO (C : Addr) (sp : Sp) (E : XK) : List Addr → List Addr → Hp → VK → Prop
  | o :: os, p :: ps, H, Q => (∃ dx fs dx' fs', H o = some (.ins C dx fs) ∧ H p = some (.ins C dx' fs')) ∧ (if o = p then tAllO C sp E os ps H Q else sp [.ref o, .ref p] H (fun z H' => ∃ b, z = .bl b ∧ if b = true then tAllO C sp E os ps H' Q else Q (.bl false) H') E)
  | _, _, H, Q => Q (.bl true) H
def rTupO (K : PySem.W.Frag) (C : Addr) (sp : Sp) (E : XK) : R2 := fun x y H Q => ∃ (a b : Addr) (os ps : List Addr), x = .ref a ∧ y = .ref b ∧ SqT K H a (os.map V.ref) ∧ SqT K H b (ps.map V.ref) ∧ os.length = ps.length ∧ tAllO C sp E os ps H Q
section
variable {X : Cx} {CX : CXT} {C g : Addr} {n : Nat} {sp : Sp} {E : XK}
theorem own_eq1 {pins : List (Addr × Obj)} {σ : L2.St} {H : Hp} {s : Shared} {Q : Bool → Hp → Prop} {a dx : Addr} {fs : List (Str × V)} {y : V} {u : Value} (Z : EqC X.K C g) (F : FnR X.prog X.w X.K X.mg X.base CX n g sp) (hr : Room (n + 1) X.A) (hx : Passes CX X E) (I : Inv X pins σ H s) (ha : H a = some (.ins C dx fs)) (ry : RelV y u)
    (q : sp [.ref a, y] H (fun z H' => ∃ b, z = .bl b ∧ Q b H') E) : wpAny (model X.prog X.w) X.A.in1 (tryCompare (.ref a) "__eq__" u) (fun r s' => ∃ b H', r = some (.bool b) ∧ Inv X pins σ H' s' ∧ Q b H') X.xe s := by
  obtain ⟨mA, J, _⟩ := ins_get I.hok ha
  obtain ⟨od, J, _⟩ := J.look
  refine tc_eq I.kIn J Z.eq Z.fn (wpAny_mono (wpAny_call (run_fnR1 (us := [.ref a, u]) (vs := [.ref a, y]) F hr hx I (.cons rfl (.cons ry .nil)) q)) (fun w s' z => ?_) fun _ _ x => x)
  obtain ⟨z', H', I', rz, b, rfl, qz⟩ := z
  cases (show w = Value.bool b from rz)
  exact ⟨b, rfl, b, H', rfl, I', qz⟩
theorem refs_vals : ∀ (ws : List Addr) (us : List Value), Vals (ws.map V.ref) us → us = ws.map Value.ref
  | [], _, .nil => rfl
  | w :: ws, _, .cons h r => by
    rw [refs_vals ws _ r]
    cases (show _ = Value.ref w from h)
    rfl
theorem op_eqTO (Z : EqC X.K C g) (F : FnR X.prog X.w X.K X.mg X.base CX n g sp) (hr : Room (n + 1) X.A) (hx : Passes CX X E) : OpR X (compareOp .Eq) (rTupO X.K C sp E) := by
  intro pins s σ H x y v u Q I rx ry h
  obtain ⟨a, b, os, ps, rfl, rfl, hA, hB, hl, q⟩ := h
  cases (show v = Value.ref a from rx)
  cases (show u = Value.ref b from ry)
  obtain ⟨its, rv, pl, _⟩ := I.tuple hA
  obtain ⟨its2, rv2, pl2, _⟩ := I.tuple hB
  have l1 := rv.length
  have l2 := rv2.length
  rw [List.length_map] at l1 l2
  have hu : X.A.units < cLine := by have := hr.units; omega
  have hu1 : X.A.in1.units < cLine := by have := hr.in1.units; omega
  obtain ⟨⟨cls, dd, data, sl⟩, ho, hc, n1, hd⟩ := pl
  obtain ⟨⟨cls2, dd2, data2, sl2⟩, ho2, hc2, n2, hd2⟩ := pl2
  simp only at hc hd hc2 hd2
  subst hc hd hc2 hd2
  obtain rfl := refs_vals os its rv
  obtain rfl := refs_vals ps its2 rv2
  refine wpAny_richCompare_same_room (T := "tuple") (op := .Eq) ⟨_, ho, rfl⟩ ⟨_, ho2, rfl⟩ PySem.F.slot_tuple_eq (call_meetsIn PySem.F.slot_tuple_eq ⟨_, ho, rfl⟩ PySem.F.entry_tuple_eq (PySem.F.args_tuple_eq_2 _ _)
    (SeqAt.tuple_eqJ a b _ _ n1 n2 dd dd2 sl sl2 (by simp [hl]) (fun i s' => ∃ H', Inv X pins σ H' s' ∧ tAllO C sp E (os.drop i) (ps.drop i) H' Q)) ⟨ho, ho2, ⟨H, I, q⟩, fun i h1 h2 s1 hJ => ?_, fun s1 hJ => ?_⟩) hu
  · obtain ⟨H1, I1, q1⟩ := hJ
    have h1' : i < os.length := by simpa using h1
    have h2' : i < ps.length := by simpa using h2
    rw [List.drop_eq_getElem_cons h1', List.drop_eq_getElem_cons h2'] at q1
    obtain ⟨⟨dx, fs, dx', fs', e1, e2⟩, q1⟩ := q1
    have g1 : (os.map Value.ref).toArray[i]'h1 = .ref os[i] := by simp
    have g2 : (ps.map Value.ref).toArray[i]'h2 = .ref ps[i] := by simp
    rw [g1, g2]
    refine SeqAt.eqBool_refs (fun e => ?_) (fun e => ?_)
    · rw [if_pos e] at q1
      exact ⟨H1, I1, q1⟩
    · rw [if_neg e] at q1
      obtain ⟨tb, lk, nf⟩ := kd_look Z I1 (.own e2 (by unfold notFirst; simp)) (show RelV (.ref ps[i]) (.ref ps[i]) from rfl)
      obtain ⟨mA, J, _⟩ := ins_get I1.hok e1
      obtain ⟨od, J, _⟩ := J.look
      refine rc_left (op := .Eq) hu1 I1.kIn J lk nf (wpAny_mono (own_eq1 (y := .ref ps[i]) (u := .ref ps[i]) Z F hr hx I1 e1 rfl q1) (fun r s' z => ?_) fun _ _ e => e)
      obtain ⟨k, H', rfl, I', qz⟩ := z
      refine ⟨_, rfl, k, rfl, ?_⟩
      cases k with
      | true => exact ⟨H', I', qz⟩
      | false => exact ⟨(fun z => nomatch z), .bl false, H', I', rfl, qz⟩
  · obtain ⟨H1, I1, q1⟩ := hJ
    rw [List.drop_eq_nil_of_le (by simp)] at q1
    refine ⟨(fun z => nomatch z), .bl true, H1, I1, rfl, ?_⟩
    unfold tAllO at q1
    exact q1
end
end Pd

set_option maxHeartbeats 4000000
namespace Pd
open PySem PySem.Spec PyProof.Rows L2 SX
/-! ### rows of steps as data -/
def rowData (sts : List Stp) : PyData := .tuple (sts.map stpData)
theorem row_key {sts : List Stp} (ok : ∀ st ∈ sts, st.ok) : PyData.canLayAll0 (sts.map stpData) = true ∧ PyData.depthAll (sts.map stpData) ≤ 1 := by
  induction sts with
  | nil => exact ⟨rfl, Nat.zero_le _⟩
  | cons st sts ih =>
    obtain ⟨h1, h2⟩ := ih fun s hs => ok s (List.mem_cons_of_mem _ hs)
    obtain ⟨h3, h4⟩ := stp_shape (ok st (List.mem_cons_self ..))
    refine ⟨?_, ?_⟩
    · rw [List.map_cons]; simp only [PyData.canLayAll0, h3, h1, Bool.and_self]
    · rw [List.map_cons]; simp only [PyData.depthAll, h4]; omega
theorem rows_shape {rws : List (List Stp)} (ok : ∀ sts ∈ rws, ∀ st ∈ sts, st.ok) : SeqAt.shaped (.list (rws.map rowData)) = true := by
  have key : PyData.canLayAll0 (rws.map rowData) = true ∧ PyData.depthAll (rws.map rowData) ≤ 2 := by
    induction rws with
    | nil => exact ⟨rfl, Nat.zero_le _⟩
    | cons r rws ih =>
      obtain ⟨h1, h2⟩ := ih fun s hs => ok s (List.mem_cons_of_mem _ hs)
      obtain ⟨h3, h4⟩ := row_key (ok r (List.mem_cons_self ..))
      have e1 : (rowData r).canLay0 = true := by simp only [rowData, PyData.canLay0, h3]
      have e2 : (rowData r).depth ≤ 2 := by simp only [rowData, PyData.depth]; omega
      refine ⟨?_, ?_⟩
      · rw [List.map_cons]; simp only [PyData.canLayAll0, e1, h1, Bool.and_self]
      · rw [List.map_cons]; simp only [PyData.depthAll]; omega
  unfold SeqAt.shaped
  simp only [PyData.canLay0, PyData.depth, key.1, Bool.true_and]
  exact decide_eq_true (by have := key.2; omega)
theorem row_dp {K : PySem.W.Frag} {H : Hp} {r : Addr} {sts : List Stp} (h : RowAt K H r sts) : Dp K H (.ref r) (rowData sts) := by
  obtain ⟨ps, hp, al⟩ := h
  exact .tup hp (al_dp al)
theorem row_okS {K : PySem.W.Frag} {H : Hp} {r : Addr} {sts : List Stp} (h : RowAt K H r sts) : ∀ st ∈ sts, st.ok := by
  obtain ⟨ps, hp, al⟩ := h
  exact al.ok
theorem rows_eqv {rws : List (List Stp)} (ok : ∀ sts ∈ rws, ∀ st ∈ sts, st.ok) : PyData.eqv (.list (rws.map rowData)) (.list (rws.map rowData)) = true := SeqAt.eqv_refl _ (SeqAt.canLay_of_shaped (rows_shape ok))
/-- four rows in a list -/
theorem four_dp {K : PySem.W.Frag} {H : Hp} {p r1 r2 r3 r4 : Addr} {s1 s2 s3 s4 : List Stp} (hp : H p = some (.lst [.ref r1, .ref r2, .ref r3, .ref r4])) (R1 : RowAt K H r1 s1) (R2 : RowAt K H r2 s2) (R3 : RowAt K H r3 s3) (R4 : RowAt K H r4 s4) :
    Dp K H (.ref p) (.list ([s1, s2, s3, s4].map rowData)) := .lst (SqL.of hp) (.cons (row_dp R1) (.cons (row_dp R2) (.cons (row_dp R3) (.cons (row_dp R4) .nil))))
theorem four_ok {K : PySem.W.Frag} {H : Hp} {r1 r2 r3 r4 : Addr} {s1 s2 s3 s4 : List Stp} (R1 : RowAt K H r1 s1) (R2 : RowAt K H r2 s2) (R3 : RowAt K H r3 s3) (R4 : RowAt K H r4 s4) : ∀ sts ∈ [s1, s2, s3, s4], ∀ st ∈ sts, st.ok := by
  intro sts h
  simp only [List.mem_cons, List.not_mem_nil, or_false] at h
  rcases h with rfl | rfl | rfl | rfl
  · exact row_okS R1
  · exact row_okS R2
  · exact row_okS R3
  · exact row_okS R4
theorem row_sh {K : PySem.W.Frag} {H : Hp} {r : Addr} {sts : List Stp} (h : RowAt K H r sts) : SeqAt.shaped (rowData sts) = true := by
  obtain ⟨ps, hp, al⟩ := h
  exact row_shape al.ok
/-! ### Folding.__eq__, Doors.__eq__ -/
theorem Bk.ext {K : PySem.W.Frag} {H H' : Hp} {x : V} (h : Bk K H x) (k : ∀ c o, H c = some o → H' c = some o) : Bk K H' x := by
  cases h with
  | non => exact .non
  | int i => exact .int i
  | bl b => exact .bl b
  | str s => exact .str s
  | lst h => exact .lst (sqL_keep h fun o e => k _ o e)
  | tup h => exact .tup (sqT_keep h fun o e => k _ o e)
/-- which class is asked -/
structure IsO (K : PySem.W.Frag) (C : Addr) : Prop where
  i : PySem.W.isClsIn K C = true
  t : PySem.W.typeIn K (.ref C) = some (.type "type")
theorem kit_T_no {K : PySem.W.Frag} {C : Addr} {T : String} (Z : IsO K C) (s : PySem.W.subIn K (.type T) (.ref C) = some false) : PySem.W.kitOne K (.type T) (.ref C) = some false := by
  have e : (PySem.W.clsIn K C).isSome = true := Z.i
  have t := Z.t
  unfold PySem.W.kitOne
  rw [if_neg (by intro h; exact absurd (beq_iff_eq.mp h) (by intro h; cases h))]
  simp [PySem.W.kitCls, t, e, s]
theorem lst_ty {K : PySem.W.Frag} {H : Hp} {a : Addr} {xs : List V} (h : SqL K H a xs) : TyX K H (.ref a) (.type "list") := by
  rcases h with (h | ⟨o, h⟩) | ⟨o, its, n, h, c, _⟩
  · exact .base (.lst h)
  · exact .base (.frz h)
  · exact .kList h c
def rEq (s s' : List Stp) : Bool := PyData.eqv (rowData s) (rowData s')
theorem rEq_comm (s s' : List Stp) : rEq s s' = rEq s' s := PySem.W.eqv_comm _ _
structure EqF (K : PySem.W.Frag) (Cf CD gF gD : Addr) : Prop where
  ef : EqC K Cf gF
  ed : EqC K CD gD
  iF : C8.InsC K Cf
  iD : C8.InsC K CD
  oF : IsO K Cf
  oD : IsO K CD
  fd : PySem.W.kitOne K (.ref Cf) (.ref CD) = some false
  df : PySem.W.kitOne K (.ref CD) (.ref Cf) = some false
  nF : PySem.W.notFirst K CD (.ref Cf) = true
  nD : PySem.W.notFirst K Cf (.ref CD) = true
def spFEq (K : PySem.W.Frag) (C CD : Addr) : Sp := fun vs H Q _ => ∃ (o r : Addr) (sts : List Stp) (y : V), vs = [.ref o, y] ∧ FoldAt K C H o r sts ∧ ((∃ (o' r' : Addr) (sts' : List Stp), y = .ref o' ∧ FoldAt K C H o' r' sts' ∧ Q (.bl (rEq sts sts')) H) ∨ (Bk K H y ∧ Q (.bl false) H) ∨ (∃ a dx fs, y = .ref a ∧ H a = some (.ins CD dx fs) ∧ Q (.bl false) H))
/-- foldings in pairs -/
inductive FPairs (K : PySem.W.Frag) (C : Addr) (H : Hp) : List Addr → List Addr → Bool → Prop where
  | nil : FPairs K C H [] [] true
  | same {o r : Addr} {s : List Stp} {os ps : List Addr} {b : Bool} (h : FoldAt K C H o r s) (t : FPairs K C H os ps b) : FPairs K C H (o :: os) (o :: ps) b
  | cons {o p r r' : Addr} {s s' : List Stp} {os ps : List Addr} {b : Bool} (n : o ≠ p) (h : FoldAt K C H o r s) (h' : FoldAt K C H p r' s') (t : FPairs K C H os ps b) : FPairs K C H (o :: os) (p :: ps) (rEq s s' && b)
theorem FPairs.comm {K : PySem.W.Frag} {C : Addr} {H : Hp} : ∀ {os ps : List Addr} {b : Bool}, FPairs K C H os ps b → FPairs K C H ps os b
  | _, _, _, .nil => .nil
  | _, _, _, .same h t => .same h t.comm
  | _, _, _, .cons n h h' t => by rw [rEq_comm]; exact .cons (fun e => n e.symm) h' h t.comm
theorem FPairs.ext {K : PySem.W.Frag} {C : Addr} {H H' : Hp} (k : Ext H H') : ∀ {os ps : List Addr} {b : Bool}, FPairs K C H os ps b → FPairs K C H' os ps b
  | _, _, _, .nil => .nil
  | _, _, _, .same h t => .same (h.ext k) (t.ext k)
  | _, _, _, .cons n h h' t => .cons n (h.ext k) (h'.ext k) (t.ext k)
theorem FPairs.len {K : PySem.W.Frag} {C : Addr} {H : Hp} : ∀ {os ps : List Addr} {b : Bool}, FPairs K C H os ps b → os.length = ps.length
  | _, _, _, .nil => rfl
  | _, _, _, .same h t => congrArg (· + 1) t.len
  | _, _, _, .cons n h h' t => congrArg (· + 1) t.len
theorem FPairs.all {K : PySem.W.Frag} {C CD : Addr} {H : Hp} {E : XK} {Q : VK} : ∀ {os ps : List Addr} {b : Bool}, FPairs K C H os ps b → Q (.bl b) H → tAllO C (spFEq K C CD) E os ps H Q
  | _, _, _, .nil, q => q
  | _, _, _, .same h t, q => by
    obtain ⟨⟨dx, e⟩, _⟩ := id h
    exact ⟨⟨dx, _, dx, _, e, e⟩, by rw [if_pos rfl]; exact t.all q⟩
  | _, _, _, @FPairs.cons _ _ _ o p r r' s s' os ps b n h h' t, q => by
    obtain ⟨⟨dx, e⟩, _⟩ := id h
    obtain ⟨⟨dx', e'⟩, _⟩ := id h'
    refine ⟨⟨dx, _, dx', _, e, e'⟩, ?_⟩
    rw [if_neg n]
    refine ⟨o, r, s, _, rfl, h, .inl ⟨p, r', s', rfl, h', rEq s s', rfl, ?_⟩⟩
    cases z : rEq s s' with
    | true => rw [z, Bool.true_and] at q; rw [if_pos rfl]; exact t.all q
    | false => rw [z, Bool.false_and] at q; rw [if_neg Bool.false_ne_true]; exact q
/-- what doors are held against -/
inductive EqW (K : PySem.W.Frag) (C CD : Addr) (H : Hp) (os : List Addr) : V → Bool → Prop where
  | doors {d o1 o2 o3 o4 r1 r2 r3 r4 : Addr} {s1 s2 s3 s4 : List Stp} {b : Bool} (h : DrAt K C CD H d o1 o2 o3 o4 r1 r2 r3 r4 s1 s2 s3 s4) (f : FPairs K C H os [o1, o2, o3, o4] b) : EqW K C CD H os (.ref d) b
  | kind {y : V} (h : Bk K H y) : EqW K C CD H os y false
  | fold {o r : Addr} {s : List Stp} (h : FoldAt K C H o r s) : EqW K C CD H os (.ref o) false
def spDEq (K : PySem.W.Frag) (C CD : Addr) : Sp := fun vs H Q _ => ∃ (d o1 o2 o3 o4 r1 r2 r3 r4 : Addr) (s1 s2 s3 s4 : List Stp) (y : V) (b : Bool), vs = [.ref d, y] ∧ DrAt K C CD H d o1 o2 o3 o4 r1 r2 r3 r4 s1 s2 s3 s4 ∧ EqW K C CD H [o1, o2, o3, o4] y b ∧ ∀ H', Ext H H' → Q (.bl b) H'
section
variable {P : Program} {w : World} {K : PySem.W.Frag} {mg : Str → Option Value} {base : Heap}
theorem bk_ty {C g : Addr} {H : Hp} {y : V} (E1 : EqC K C g) (hk : Bk K H y) : ∃ t, TyX K H y (.type t) ∧ PySem.W.subIn K (.type t) (.ref C) = some false := by
  cases hk with
  | non => exact ⟨_, .base .non, E1.n'⟩
  | int i => exact ⟨_, .base (.int i), E1.i'⟩
  | bl b => exact ⟨_, .base (.bl b), E1.b'⟩
  | str s => exact ⟨_, .base (.str s), E1.s'⟩
  | lst h => exact ⟨_, lst_ty h, E1.l'⟩
  | tup h => exact ⟨_, sqT_ty h, E1.t'⟩
theorem ok_feq {f g gD Cf CD : Addr} {fd : FuncData} (F : Fun K "__eq__" "Folding.__eq__" sFoldingEq f fd) (T : Nms mg) (Z : Fcl K mg Cf) (X : EqF K Cf CD g gD) : FnOk P w K mg base CX0 1 f fd ["self", "other"] (spFEq K Cf CD) := by
  refine F.ok scFoldingEq (fun vs H Q E h => ?_) (fun cdv A outer s H vs Q E hr h => ?_)
  · obtain ⟨o, r, sts, y, rfl, _⟩ := h
    rfl
  · obtain ⟨o, r, sts, y, rfl, ⟨⟨dx, e⟩, R, _⟩, h⟩ := h
    refine ⟨_, pss_one (ps_ret (pe_and (pe_callB call_isi (by rfl) T.isi (by decide +kernel) (pa_cons (pv 1) (pa_cons (pe_glob (v := .ref Cf) rfl Z.mgC rfl) pa_nil)))
      (pe_one (pe_cmpR (op_eqD hr.units) (pe_fld (pv 0) rfl) (pe_fld (pv 1) rfl) (nomark _))))), ?_⟩
    rcases h with ⟨o', r', sts', rfl, ⟨⟨dx', e'⟩, R', _⟩, q⟩ | ⟨hk, q⟩ | ⟨a, dx', fs, rfl, e', q⟩
    · refine ⟨_, rfl, _, _, .ref Cf, .ref Cf, true, rfl, .own Cf, .base (.ins e' X.iF.cl X.iF.ha X.iF.hn X.iF.htk X.iF.hm), X.iF.me, true, rfl, iteT ?_⟩
      refine ⟨_, rfl, o, Cf, dx, _, _, rfl, e, Z.cl, Z.nS, rfl, _, rfl, o', Cf, dx', _, _, rfl, e', Z.cl, Z.nS, rfl, ?_⟩
      exact ⟨_, _, row_dp R, row_dp R', row_sh R, row_sh R', q⟩
    · obtain ⟨t, ty, sb⟩ := bk_ty X.ef hk
      exact ⟨_, rfl, _, _, _, _, false, rfl, .own Cf, ty, kit_T_no X.oF sb, false, rfl, iteF q⟩
    · exact ⟨_, rfl, _, _, .ref CD, .ref Cf, false, rfl, .own Cf, .base (.ins e' X.iD.cl X.iD.ha X.iD.hn X.iD.htk X.iD.hm), X.df, false, rfl, iteF q⟩
theorem ok_deq {f gF gD g Cf CD : Addr} {fd fdF : FuncData} (F : Fun K "__eq__" "Doors.__eq__" sDoorsEq f fd) (T : Nms mg) (Y : Dcl K mg CD) (X : EqF K Cf CD gF gD) (FE : FnOk P w K mg base CX0 1 gF fdF ["self", "other"] (spFEq K Cf CD)) (bE : Binds K fdF ["self", "other"] []) : FnOk P w K mg base CX0 3 f fd ["self", "other"] (spDEq K Cf CD) := by
  refine F.ok scDoorsEq (fun vs H Q E h => ?_) (fun cdv A outer s H vs Q E hr h => ?_)
  · obtain ⟨d, o1, o2, o3, o4, r1, r2, r3, r4, s1, s2, s3, s4, y, b, rfl, _⟩ := h
    rfl
  · obtain ⟨d, o1, o2, o3, o4, r1, r2, r3, r4, s1, s2, s3, s4, y, b, rfl, hD, hy, q⟩ := h
    have nd := scDoorsEq.nd
    refine ⟨_, pss_cons (ps_if (pt_not (pt_val (pe_callB call_isi (by rfl) T.isi (by decide +kernel) (pa_cons (pv 1) (pa_cons (pe_glob (v := .ref CD) rfl Y.mgC rfl) pa_nil))))) (pss_one (ps_ret pe_bl)) pss_nil)
      (pss_cons (ps_set (i := 2) nd rfl (Or.inl rfl) (pe_tup (pa_cons (pe_fld (pv 0) rfl) (pa_cons (pe_fld (pv 0) rfl) (pa_cons (pe_fld (pv 0) rfl) (pa_cons (pe_fld (pv 0) rfl) pa_nil))))))
      (pss_one (ps_ret (pe_cmpR (op_eqTO X.ef (FnOk.raw FE bE .nil) hr pass0) (pv 2) (pe_tup (pa_cons (pe_fld (pv 1) rfl) (pa_cons (pe_fld (pv 1) rfl) (pa_cons (pe_fld (pv 1) rfl) (pa_cons (pe_fld (pv 1) rfl) pa_nil))))) (nomark _))))), ?_⟩
    obtain ⟨dx, e⟩ := hD.ins
    cases hy with
    | @doors d' p1 p2 p3 p4 t1 t2 t3 t4 u1 u2 u3 u4 b hD' fp =>
      obtain ⟨dx', e'⟩ := hD'.ins
      refine ⟨_, rfl, _, _, .ref CD, .ref CD, true, rfl, .own CD, .base (.ins e' X.iD.cl X.iD.ha X.iD.hn X.iD.htk X.iD.hm), X.iD.me, true, rfl, iteF ?_⟩
      refine ⟨_, rfl, d, CD, dx, _, _, rfl, e, Y.cl, Y.n1, rfl, _, rfl, d, CD, dx, _, _, rfl, e, Y.cl, Y.n2, rfl, _, rfl, d, CD, dx, _, _, rfl, e, Y.cl, Y.n3, rfl, _, rfl, d, CD, dx, _, _, rfl, e, Y.cl, Y.n4, rfl, by show 4 ≤ sizeLine; decide, fun q1 hq1 => ?_⟩
      have k1 : Ext H (L2.upd H q1 (.tup [.ref o1, .ref o2, .ref o3, .ref o4])) := Ext.refl.new hq1
      have e1 := k1 d' _ e'
      refine ⟨_, rfl, _, rfl, d', CD, dx', _, _, rfl, e1, Y.cl, Y.n1, rfl, _, rfl, d', CD, dx', _, _, rfl, e1, Y.cl, Y.n2, rfl, _, rfl, d', CD, dx', _, _, rfl, e1, Y.cl, Y.n3, rfl, _, rfl, d', CD, dx', _, _, rfl, e1, Y.cl, Y.n4, rfl, by show 4 ≤ sizeLine; decide, fun q2 hq2 => ?_⟩
      have k2 := k1.new' hq2 (o := .tup [.ref p1, .ref p2, .ref p3, .ref p4])
      refine ⟨q1, q2, [o1, o2, o3, o4], [p1, p2, p3, p4], rfl, rfl, SqT.of ?_, SqT.of upd_same, rfl, (fp.ext k2).all (q _ k2)⟩
      rw [upd_ne (fun z => by rw [← z, upd_same] at hq2; cases hq2)]
      exact upd_same
    | kind hk =>
      obtain ⟨t, ty, sb⟩ := bk_ty X.ed hk
      exact ⟨_, rfl, _, _, _, _, false, rfl, .own CD, ty, kit_T_no X.oD sb, false, rfl, iteT (q H .refl)⟩
    | @fold o r s hF =>
      obtain ⟨⟨dx', e'⟩, _⟩ := hF
      exact ⟨_, rfl, _, _, .ref Cf, .ref CD, false, rfl, .own CD, .base (.ins e' X.iF.cl X.iF.ha X.iF.hn X.iF.htk X.iF.hm), X.fd, false, rfl, iteT (q H .refl)⟩
end
end Pd

set_option maxHeartbeats 4000000
namespace Pd
open PySem PySem.Spec PyProof.Rows L2 SX
/-! ### deeds -/
inductive Dr where
  | put | find | strike
deriving DecidableEq
def Dr.nm : Dr → Str
  | .put => "put" | .find => "find" | .strike => "strike"
abbrev Deed := Dr × List Nat
def deedVals (d : Deed) : List V := [.str d.1.nm, .str (S d.2)]
inductive DAl (K : PySem.W.Frag) (H : Hp) : List Addr → List Deed → Prop where
  | nil : DAl K H [] []
  | cons {p : Addr} {d : Deed} {ps : List Addr} {ds : List Deed} (h : SqT K H p (deedVals d)) (g : Good d.2) (r : DAl K H ps ds) : DAl K H (p :: ps) (d :: ds)
section
variable {K : PySem.W.Frag} {H H' : Hp}
theorem DAl.ext (k : Ext H H') : ∀ {ps : List Addr} {ds : List Deed}, DAl K H ps ds → DAl K H' ps ds
  | _, _, .nil => .nil
  | _, _, .cons h g r => .cons (sqT_keep h (fun o x => k _ o x)) g (r.ext k)
theorem DAl.kp {j : Addr} {xs : List V} (k : Kp j H H') (hj : H j = some (.lst xs)) : ∀ {ps : List Addr} {ds : List Deed}, DAl K H ps ds → DAl K H' ps ds
  | _, _, .nil => .nil
  | _, _, .cons h g r => .cons (sqT_noLst h k hj) g (r.kp k hj)
theorem DAl.len : ∀ {ps : List Addr} {ds : List Deed}, DAl K H ps ds → ps.length = ds.length
  | _, _, .nil => rfl
  | _, _, .cons _ _ r => congrArg (· + 1) r.len
theorem DAl.append : ∀ {ps qs : List Addr} {ds es : List Deed}, DAl K H ps ds → DAl K H qs es → DAl K H (ps ++ qs) (ds ++ es)
  | _, _, _, _, .nil, h => h
  | _, _, _, _, .cons h g r, q => .cons h g (r.append q)
theorem DAl.snoc {p : Addr} {d : Deed} {ps : List Addr} {ds : List Deed} (a : DAl K H ps ds) (h : SqT K H p (deedVals d)) (g : Good d.2) : DAl K H (ps ++ [p]) (ds ++ [d]) := a.append (.cons h g .nil)
theorem DAl.take : ∀ {ps : List Addr} {ds : List Deed} (n : Nat), DAl K H ps ds → DAl K H (ps.take n) (ds.take n)
  | _, _, 0, _ => by rw [List.take_zero, List.take_zero]; exact .nil
  | _, _, n + 1, .nil => .nil
  | _, _, n + 1, .cons h g r => .cons h g (r.take n)
theorem DAl.drop : ∀ {ps : List Addr} {ds : List Deed} (n : Nat), DAl K H ps ds → DAl K H (ps.drop n) (ds.drop n)
  | _, _, 0, h => h
  | _, _, n + 1, .nil => .nil
  | _, _, n + 1, .cons h g r => r.drop n
theorem DAl.get : ∀ {ps : List Addr} {ds : List Deed} {i : Nat} {p : Addr}, DAl K H ps ds → ps[i]? = some p → ∃ d, ds[i]? = some d ∧ SqT K H p (deedVals d) ∧ Good d.2
  | _, _, _, _, .nil, e => by simp at e
  | _, _, 0, _, .cons h g r, e => by
    simp at e; subst e
    exact ⟨_, by simp, h, g⟩
  | _, _, i + 1, _, .cons h g r, e => by
    obtain ⟨d, e1, h1⟩ := r.get (i := i) (by simpa using e)
    exact ⟨d, by simpa using e1, h1⟩
end
end Pd

set_option maxHeartbeats 4000000
namespace Pd
open PySem PySem.Spec PyProof.Rows L2 SX
/-! ### what the document says of answers -/
abbrev Fs := Dr → List Stp
def stepS (fs : Fs) (T : List Nat → Bool) (d : Deed) : List Nat → Bool := fun g => match d.1 with
  | .put => T g || decide (g = mks (fs .put) d.2)
  | .find => T g
  | .strike => decide (g ≠ mks (fs .strike) d.2) && T g
def ansS (fs : Fs) (T : List Nat → Bool) (d : Deed) : Bool := match d.1 with
  | .put => !T (mks (fs .put) d.2)
  | .find => T (mks (fs .find) d.2)
  | .strike => T (mks (fs .strike) d.2)
def walkS (fs : Fs) : (List Nat → Bool) → List Deed → List Bool
  | _, [] => []
  | T, d :: ds => ansS fs T d :: walkS fs (stepS fs T d) ds
def endS (fs : Fs) : (List Nat → Bool) → List Deed → (List Nat → Bool)
  | T, [] => T
  | T, d :: ds => endS fs (stepS fs T d) ds
def noneS : List Nat → Bool := fun _ => false
section
variable {fs : Fs} {T : List Nat → Bool}
theorem walk_append : ∀ {ds es : List Deed} {T : List Nat → Bool}, walkS fs T (ds ++ es) = walkS fs T ds ++ walkS fs (endS fs T ds) es
  | [], _, _ => rfl
  | d :: ds, es, T => by
    show ansS fs T d :: walkS fs (stepS fs T d) (ds ++ es) = _
    rw [walk_append]; rfl
theorem end_append : ∀ {ds es : List Deed} {T : List Nat → Bool}, endS fs T (ds ++ es) = endS fs (endS fs T ds) es
  | [], _, _ => rfl
  | d :: ds, es, T => end_append (ds := ds)
theorem walk_len : ∀ {ds : List Deed} {T : List Nat → Bool}, (walkS fs T ds).length = ds.length
  | [], _ => rfl
  | d :: ds, T => congrArg (· + 1) walk_len
end
/-- the forms, as keys -/
def keyS (l : List Nat) : Key := .inr (S l)
theorem keyS_inj {a b : List Nat} : keyS a = keyS b ↔ a = b := by
  constructor
  · intro h
    injection h with h
    exact SX.S_inj h
  · rintro rfl; rfl
def FrmAt (P : Program) (w : World) (H : Hp) (a : Addr) (L : List Key) (T : List Nat → Bool) : Prop := H a = some (SetL P w a L) ∧ L.Nodup ∧ ∀ g, hasK L (keyS g) = T g
theorem nm_eq (a b : Dr) : decide (V.str a.nm = V.str b.nm) = decide (a = b) := by
  cases a <;> cases b <;> decide +kernel
def spIsName : Sp := fun vs H Q _ => ∃ d : Dr, vs = [.str d.nm] ∧ Q (.bl true) H
def spIsDeed (K : PySem.W.Frag) : Sp := fun vs H Q _ => ∃ (p : Addr) (d : Deed), vs = [.ref p] ∧ SqT K H p (deedVals d) ∧ Good d.2 ∧ ∀ H', Ext H H' → Q (.bl true) H'
def spCheckDeeds (K : PySem.W.Frag) : Sp := fun vs H Q _ => ∃ (l : Addr) (ps : List Addr) (ds : List Deed), vs = [.ref l] ∧ H l = some (.lst (ps.map V.ref)) ∧ DAl K H ps ds ∧ ∀ H', Ext H H' → Q .non H'
def fkv (o1 o2 o3 : Addr) : List (Key × V) := [(.inr "put", .ref o1), (.inr "find", .ref o2), (.inr "strike", .ref o3)]
def spFoldingsOf (K : PySem.W.Frag) (C CD : Addr) : Sp := fun vs H Q _ => ∃ (d o1 o2 o3 o4 r1 r2 r3 r4 : Addr) (s1 s2 s3 s4 : List Stp), vs = [.ref d] ∧ DrAt K C CD H d o1 o2 o3 o4 r1 r2 r3 r4 s1 s2 s3 s4 ∧
  ∀ p H', H p = none → H' p = some (.dK (fkv o1 o2 o3)) → Ext H H' → Q (.ref p) H'
def dfs (s1 s2 s3 : List Stp) : Fs
  | .put => s1 | .find => s2 | .strike => s3
def spAnswers (K : PySem.W.Frag) (C CD : Addr) : Sp := fun vs H Q _ => ∃ (d l : Addr) (ps : List Addr) (ds : List Deed) (o1 o2 o3 o4 r1 r2 r3 r4 : Addr) (s1 s2 s3 s4 : List Stp), vs = [.ref d, .ref l] ∧ DrAt K C CD H d o1 o2 o3 o4 r1 r2 r3 r4 s1 s2 s3 s4 ∧
  H l = some (.lst (ps.map V.ref)) ∧ DAl K H ps ds ∧ ds.length ≤ 1000 ∧ ∀ t H', H t = none → H' t = some (.lst ((walkS (dfs s1 s2 s3) noneS ds).map V.bl)) → Ext H H' → Q (.ref t) H'
/-- the doors' constant of names -/
structure CstN (K : PySem.W.Frag) (mg : Str → Option Value) : Prop where
  names : ∃ Nd : Addr, mg "NAMES" = some (.ref Nd) ∧ ∀ H : Hp, SqT K H Nd [.str "put", .str "find", .str "strike"]
section
variable {P : Program} {w : World} {K : PySem.W.Frag} {mg : Str → Option Value} {base : Heap}
theorem ok_isName {f : Addr} {fd : FuncData} (F : Fun K "_is_name" "_is_name" sIsName f fd) (T : Nms mg) (Cn : CstN K mg) : FnOk P w K mg base CX0 1 f fd ["value"] spIsName := by
  refine F.ok scIsName (fun vs H Q E h => ?_) (fun cdv A outer s H vs Q E hr h => ?_)
  · obtain ⟨d, rfl, _⟩ := h
    rfl
  · obtain ⟨d, rfl, q⟩ := h
    have nd := scIsName.nd
    obtain ⟨Nd, mN, hN⟩ := Cn.names
    refine ⟨_, pss_one (ps_ret (pe_and (pe_callB call_isi (by rfl) T.isi (by decide +kernel) (pa_cons (pv 0) (pa_cons (pe_bltn (v := .ty "str") (by rfl) T.str (by decide +kernel) rfl) pa_nil)))
      (pe_one (pe_cmpR op_in_seq (pv 0) (pe_glob (v := .ref Nd) rfl mN rfl) rfl)))), ?_⟩
    refine ⟨_, rfl, _, _, _, _, true, rfl, .ty "str", .base (.str _), kit_ty (by decide +kernel), ?_⟩
    refine ⟨true, rfl, iteT ⟨_, rfl, Nd, _, rfl, .inr (hN H), ?_, ?_, ?_⟩⟩
    · rfl
    · decide +kernel
    · have e : inV (.str d.nm) [.str "put", .str "find", .str "strike"] = true := by cases d <;> decide +kernel
      show Q (.bl (if false = true then !inV (.str d.nm) [.str "put", .str "find", .str "strike"] else inV (.str d.nm) [.str "put", .str "find", .str "strike"])) H
      rw [e]; exact q
theorem ok_isDeed {f : Addr} {fd : FuncData} (F : Fun K "_is_deed" "_is_deed" sIsDeed f fd) (T : Nms mg) (G : Cl P w K mg base 1 "_is_name" spIsName) (G2 : Cl P w K mg base 1 "is_text" spIsText) : FnOk P w K mg base CX0 2 f fd ["value"] (spIsDeed K) := by
  refine F.ok scIsDeed (fun vs H Q E h => ?_) (fun cdv A outer s H vs Q E hr h => ?_)
  · obtain ⟨p, d, rfl, _⟩ := h
    rfl
  · obtain ⟨p, d, rfl, hp, hg, q⟩ := h
    have nd := scIsDeed.nd
    refine ⟨_, pss_one (ps_ret (pe_and (pe_callB call_isi (by rfl) T.isi (by decide +kernel) (pa_cons (pv 0) (pa_cons (pe_bltn (v := .ty "tuple") (by rfl) T.tuple (by decide +kernel) rfl) pa_nil)))
      (pe_and (pe_cmpR op_eq (pe_callB call_len_seq (by rfl) T.len PySem.boot_len (pa_cons (pv 0) pa_nil)) pe_int (nomark _))
      (pe_and (pe_cl G hr (by decide) rfl (pa_cons (pe_ix ix_tup (pv 0) pe_int (fun _ _ => rfl)) pa_nil))
      (pe_one (pe_cl G2 hr (by decide) rfl (pa_cons (pe_ix ix_tup (pv 0) pe_int (fun _ _ => rfl)) pa_nil))))))), ?_⟩
    refine ⟨_, rfl, _, _, _, _, true, rfl, .ty "tuple", sqT_ty hp, kit_ty (by decide +kernel), true, rfl, iteT ?_⟩
    refine ⟨_, rfl, p, _, rfl, .inr hp, rfl, true, rfl, iteT ?_⟩
    refine ⟨_, rfl, p, _, 0, _, rfl, rfl, hp, rfl, d.1, rfl, true, rfl, iteT ?_⟩
    refine ⟨_, rfl, p, _, 1, _, rfl, rfl, hp, rfl, d.2, rfl, (by have := hg.2; omega), fun H' k => ?_⟩
    have e : goodB d.2 = true := goodB_of hg
    rw [e]; exact q H' k
theorem ok_checkDeeds {f : Addr} {fd : FuncData} (F : Fun K "_check_deeds" "_check_deeds" sCheckDeeds f fd) (T : Nms mg) (ml : mg "list" = none) (G : Cl P w K mg base 2 "_is_deed" (spIsDeed K)) : FnOk P w K mg base CX0 3 f fd ["value"] (spCheckDeeds K) := by
  refine F.ok scCheckDeeds (fun vs H Q E h => ?_) (fun cdv A outer s H vs Q E hr h => ?_)
  · obtain ⟨l, ps, ds, rfl, _⟩ := h
    rfl
  · obtain ⟨l, ps, ds, rfl, hl, al, q⟩ := h
    have nd := scCheckDeeds.nd
    refine ⟨_, PSs.nox (pss_cons (ps_if (pt_not (pt_val (pe_callB call_isi (by rfl) T.isi (by decide +kernel) (pa_cons (pv 0) (pa_cons (pe_bltn (v := .ty "list") (by rfl) ml (by decide +kernel) rfl) pa_nil))))) pss_never pss_nil)
      (pss_one (ps_for PassesOwn.never rfl (pi_enum (by rfl) T.enum (pa_cons (pv 0) pa_nil)) (pg_tup (by rfl) (pgs_cons (pg_name (i := 1) nd rfl (Or.inl rfl)) (pgs_cons (pg_name (i := 2) nd rfl (Or.inl rfl)) pgs_nil)))
        (pss_one (ps_if (pt_not (pt_val (pe_cl G hr (by decide) rfl (pa_cons (pv 2) pa_nil)))) pss_never pss_nil))))), ?_⟩
    refine ⟨_, rfl, _, _, _, _, true, rfl, .ty "list", .base (.lst hl), kit_ty (by decide +kernel), true, rfl, iteF ?_⟩
    refine ⟨_, rfl, l, _, rfl, SqL.of hl, for_it (walk_enum (xs := ps.map V.ref)) (fun i σ H' => ∃ u v, σ = [some (.ref l), u, v] ∧ Ext H H') ⟨none, none, rfl, .refl⟩ (fun i σ H' _ p => by
      obtain ⟨u, v, _, k⟩ := p
      exact SqL.of (k l _ hl)) ?_ ?_⟩
    · rintro i x σ H2 H3 hi ⟨u, v, rfl, k2⟩ ⟨Ta, x1, y1, rfl, hT, rfl, e1, e2⟩
      obtain rfl := Option.some.inj e1
      replace e2 : (ps.map V.ref)[i]? = some y1 := e2
      rw [List.getElem?_map] at e2
      obtain ⟨p, hp, rfl⟩ := Option.map_eq_some_iff.mp e2
      obtain ⟨d, ed, hd, gd⟩ := al.get hp
      have k3 : Ext H (L2.upd H2 Ta (.tup [V.int (i : Nat), V.ref p])) := k2.new' hT
      refine ⟨Ta, _, rfl, SqT.of upd_same, rfl, _, _, rfl, _, _, rfl, rfl, ?_⟩
      exact ⟨_, rfl, p, d, rfl, sqT_keep hd (fun o x => k3 p o x), gd, fun H4 k4 => ⟨true, rfl, iteF ⟨some (.int (i : Nat)), some (.ref p), rfl, k3.trans k4⟩⟩⟩
    · rintro σ H2 ⟨u, v, rfl, k2⟩
      exact q H2 k2
theorem ok_foldingsOf {f Cf CD : Addr} {fd : FuncData} (F : Fun K "_foldings_of" "_foldings_of" sFoldingsOf f fd) (Y : Drs P w K mg base CD) : FnOk P w K mg base CX0 2 f fd ["doors"] (spFoldingsOf K Cf CD) := by
  refine F.ok scFoldingsOf (fun vs H Q E h => ?_) (fun cdv A outer s H vs Q E hr h => ?_)
  · obtain ⟨d, o1, o2, o3, o4, r1, r2, r3, r4, s1, s2, s3, s4, rfl, _⟩ := h
    rfl
  · obtain ⟨d, o1, o2, o3, o4, r1, r2, r3, r4, s1, s2, s3, s4, rfl, hD, q⟩ := h
    have nd := scFoldingsOf.nd
    obtain ⟨g1, fd1, m1, F1, b1⟩ := Y.put
    obtain ⟨g2, fd2, m2, F2, b2⟩ := Y.find
    obtain ⟨g3, fd3, m3, F3, b3⟩ := Y.strike
    refine ⟨_, pss_one (ps_ret (pe_disp (pps_cons pe_str (pe_meth0 (pv 0) Y.z.cl m1 F1 hr b1 .nil pass0) (pps_cons pe_str (pe_meth0 (pv 0) Y.z.cl m2 F2 hr b2 .nil pass0) (pps_cons pe_str (pe_meth0 (pv 0) Y.z.cl m3 F3 hr b3 .nil pass0) pps_nil))) (by rfl) (by rfl) (fun z => by cases z) (by decide))), ?_⟩
    obtain ⟨dx, e⟩ := hD.ins
    refine fun p hp => ?_
    have k0 : Ext H (L2.upd H p (.dK [])) := Ext.refl.new hp
    have e1 := k0 d _ e
    refine ⟨_, rfl, d, dx, _, rfl, e1, rfl, d, dx, _, _, rfl, e1, rfl, ?_⟩
    refine ⟨_, rfl, d, dx, _, rfl, e1, rfl, d, dx, _, _, rfl, e1, rfl, ?_⟩
    refine ⟨_, rfl, d, dx, _, rfl, e1, rfl, d, dx, _, _, rfl, e1, rfl, upd_same, fkv o1 o2 o3, rfl, by show 3 ≤ 15; decide, ?_⟩
    have em : mergeK [] (fkv o1 o2 o3) = fkv o1 o2 o3 := by rfl
    rw [em, upd_upd]
    exact q p _ hp upd_same (Ext.refl.new hp)
end
end Pd

set_option maxHeartbeats 4000000
namespace Pd
open PySem PySem.Spec PyProof.Rows L2 SX
def dof (o1 o2 o3 : Addr) : Dr → Addr
  | .put => o1 | .find => o2 | .strike => o3
theorem fkv_at (o1 o2 o3 : Addr) (d : Dr) : valV (fkv o1 o2 o3) (.inr d.nm) = some (V.ref (dof o1 o2 o3 d)) := by
  cases d <;> rfl
theorem take_snoc {α : Type} {l : List α} {i : Nat} {d : α} (h : l[i]? = some d) : l.take (i + 1) = l.take i ++ [d] := by
  rw [List.take_add_one, h]; rfl
theorem walk_take {fs : Fs} {ds : List Deed} {i : Nat} {d : Deed} (h : ds[i]? = some d) : walkS fs noneS (ds.take (i + 1)) = walkS fs noneS (ds.take i) ++ [ansS fs (endS fs noneS (ds.take i)) d] := by
  rw [take_snoc h, walk_append]; rfl
theorem end_take {fs : Fs} {ds : List Deed} {i : Nat} {d : Deed} (h : ds[i]? = some d) : endS fs noneS (ds.take (i + 1)) = stepS fs (endS fs noneS (ds.take i)) d := by
  rw [take_snoc h, end_append]; rfl
theorem FrmAt.ext {P : Program} {w : World} {H H' : Hp} {a : Addr} {L : List Key} {T : List Nat → Bool} (h : FrmAt P w H a L T) (k : Ext H H') : FrmAt P w H' a L T := ⟨k _ _ h.1, h.2⟩
section
variable {P : Program} {w : World} {K : PySem.W.Frag} {mg : Str → Option Value} {base : Heap}
theorem ok_answers {f Cf CD : Addr} {fd : FuncData} (F : Fun K "answers" "answers" sAnswers f fd) (T : Nms mg) (Z : Fol P w K mg base Cf) (G : Cl P w K mg base 3 "_check_deeds" (spCheckDeeds K)) (G2 : Cl P w K mg base 2 "_foldings_of" (spFoldingsOf K Cf CD)) : FnOk P w K mg base CX0 5 f fd ["doors", "deeds"] (spAnswers K Cf CD) := by
  refine F.ok scAnswers (fun vs H Q E h => ?_) (fun cdv A outer s H vs Q E hr h => ?_)
  · obtain ⟨d, l, ps, ds, o1, o2, o3, o4, r1, r2, r3, r4, s1, s2, s3, s4, rfl, _⟩ := h
    rfl
  · obtain ⟨d, l, ps, ds, o1, o2, o3, o4, r1, r2, r3, r4, s1, s2, s3, s4, rfl, hD, hl, al, hlen, q⟩ := h
    have nd := scAnswers.nd
    obtain ⟨g, fg, cO, FC, bC⟩ := Z.call
    have hu : (A.deeper (envOfC "answers" (defScope sAnswers) s.heap.objs.size f cdv)).units + 1 < cLine := by
      have := hr.units
      omega
    refine ⟨_, pss_cons (ps_expr (pe_cl G hr (by decide) rfl (pa_cons (pv 1) pa_nil)))
      (pss_cons (ps_set (i := 2) nd rfl (Or.inl rfl) (pe_cl G2 hr (by decide) rfl (pa_cons (pv 0) pa_nil)))
      (pss_cons (ps_set (i := 3) nd rfl (Or.inl rfl) (pe_callTy0 cr_newL (by rfl) T.set (by decide +kernel)))
      (pss_cons (ps_set (i := 4) nd rfl (Or.inl rfl) (pe_lst pa_nil))
      (pss_cons (ps_for PassesOwn.never rfl (pi_list (pv 1)) (pg_tup (by rfl) (pgs_cons (pg_name (i := 5) nd rfl (Or.inl rfl)) (pgs_cons (pg_name (i := 6) nd rfl (Or.inl rfl)) pgs_nil)))
        (pss_cons (ps_set (i := 7) nd rfl (Or.inl rfl) (pe_dget hu (pv 2) (pv 5) (fun _ _ => rfl)))
        (pss_cons (ps_set (i := 8) nd rfl (Or.inl rfl) (StX.pe_callO (pv 7) cO (FnOk.raw FC bC .nil) hr pass0 (pa_cons (pv 6) pa_nil)))
        (pss_cons (ps_set (i := 9) nd rfl (Or.inl rfl) (pe_cmpR op_inL (pv 8) (pv 3) rfl))
        (pss_cons (ps_expr (pe_bm PySem.F.plainAttrs_list PySem.F.slot_list_append PySem.F.type_list_append mt_append (pv 4) (pa_cons (pe_ifExp (pt_cmpR op_eq (pv 5) pe_str (nomark _)) (pe_not (pv 9)) (pv 9)) pa_nil)))
        (pss_one (ps_if (pt_cmpR op_eq (pv 5) pe_str (nomark _)) (pss_one (ps_expr (pe_setM PySem.F.slot_set_add PySem.F.type_set_add mt_addL (pv 3) (pv 8))))
          (pss_one (ps_if (pt_cmpR op_eq (pv 5) pe_str (nomark _)) (pss_one (ps_expr (pe_setM PySem.F.slot_set_discard PySem.F.type_set_discard mt_sdiscL (pv 3) (pv 8)))) pss_nil)))))))))
      (pss_one (ps_ret (pv 4))))))), ?_⟩
    refine ⟨_, rfl, l, ps, ds, rfl, hl, al, fun H1 k1 => ?_⟩
    refine ⟨_, rfl, d, o1, o2, o3, o4, r1, r2, r3, r4, s1, s2, s3, s4, rfl, hD.ext k1, fun fo H2 nfo hfo k2 => ?_⟩
    refine ⟨rfl, fun fa hfa => ?_⟩
    have k3 : Ext H2 (L2.upd H2 fa (SetL P w fa [])) := Ext.refl.new hfa
    refine ⟨by show 0 ≤ sizeLine; decide, fun t ht => ?_⟩
    replace ht : (L2.upd H2 fa (SetL P w fa [])) t = none := ht
    have k4 : Ext H2 (L2.upd (L2.upd H2 fa (SetL P w fa [])) t (.lst [])) := k3.new' ht
    have ta : t ≠ fa := by rintro rfl; rw [upd_same] at ht; cases ht
    have hfo3 := k3 fo _ hfo
    have foa : fo ≠ fa := by rintro rfl; rw [hfa] at hfo; cases hfo
    have fot : fo ≠ t := by rintro rfl; rw [hfo3] at ht; cases ht
    have nt2 : H2 t = none := by rw [upd_ne ta] at ht; exact ht
    have k02 := k1.trans k2
    have nt : H t = none := by
      cases z : H t with
      | none => rfl
      | some o => rw [k02 t o z] at nt2; cases nt2
    have na : H fa = none := by
      cases z : H fa with
      | none => rfl
      | some o => rw [k02 fa o z] at hfa; cases hfa
    have f0 : FrmAt P w (L2.upd (L2.upd H2 fa (SetL P w fa [])) t (.lst [])) fa [] noneS := ⟨by rw [upd_ne ta.symm]; exact upd_same, List.nodup_nil, fun g => by rw [hasK_nil]; rfl⟩
    generalize hfs : dfs s1 s2 s3 = fs at q
    have hfold : ∀ e : Dr, ∃ r, FoldAt K Cf H (dof o1 o2 o3 e) r (fs e) := fun e => by
      subst hfs
      cases e
      · exact ⟨_, hD.f1⟩
      · exact ⟨_, hD.f2⟩
      · exact ⟨_, hD.f3⟩
    have alen := al.len
    refine ⟨_, rfl, l, rfl, ⟨_, SqL.of (k4 l _ (k02 l _ hl))⟩, for_it (walk_list (xs := ps.map V.ref)) (fun i σ H' => ∃ u5 u6 u7 u8 u9 L, σ = [some (.ref d), some (.ref l), some (.ref fo), some (.ref fa), some (.ref t), u5, u6, u7, u8, u9] ∧ H' fo = some (.dK (fkv o1 o2 o3)) ∧ FrmAt P w H' fa L (endS fs noneS (ds.take i)) ∧ L.length ≤ i ∧ H' t = some (.lst ((walkS fs noneS (ds.take i)).map V.bl)) ∧ Ext H H')
      ⟨_, _, _, _, _, [], rfl, by rw [upd_ne fot]; exact hfo3, f0, Nat.le_refl _, upd_same, k02.trans k4⟩ (fun i σ H' _ p => by
      obtain ⟨u5, u6, u7, u8, u9, L, _, _, _, _, _, k⟩ := p
      exact SqL.of (k l _ hl)) ?_ ?_⟩
    · rintro i x σ H4 H5 hi ⟨u5, u6, u7, u8, u9, L, rfl, hfo5, hF5, hL5, ht5, k5⟩ ⟨rfl, hx⟩
      rw [List.getElem?_map] at hx
      obtain ⟨p, hp, rfl⟩ := Option.map_eq_some_iff.mp hx
      obtain ⟨dd, ed, hd, gd⟩ := al.get hp
      have hi' : i < ds.length := (List.getElem?_eq_some_iff.mp ed).1
      have hd5 := sqT_keep hd (fun o x => k5 p o x)
      refine ⟨p, _, rfl, hd5, rfl, _, _, rfl, _, _, rfl, rfl, ?_⟩
      have dg : DGet H5 fo (.str dd.1.nm) (some (.ref (dof o1 o2 o3 dd.1))) := by
        have z := DGet.k (k := .inr dd.1.nm) hfo5
        rw [fkv_at] at z
        exact z
      refine ⟨_, rfl, _, rfl, fo, _, rfl, dg, ?_⟩
      obtain ⟨r, hfo'⟩ := hfold dd.1
      have hf5 := hfo'.ext k5
      have hin := hf5.ins (X := cxOf CX0 P w K mg base ["doors", "deeds", "foldings", "forms", "told", "name", "text", "folding", "form", "there"] "answers" (defScope sAnswers) f cdv A outer s H E)
      have hk5 : kV (keyS (mks (fs dd.1) dd.2)) = .str (S (mks (fs dd.1) dd.2)) := rfl
      refine ⟨_, rfl, _, rfl, _, rfl, hin, dof o1 o2 o3 dd.1, r, fs dd.1, dd.2, rfl, hf5, gd, fun H6 k6 => ?_⟩
      have hF6 := hF5.ext k6
      obtain ⟨hs6, nd6, hh6⟩ := hF6
      have ht6 := k6 t _ ht5
      have hfo6 := k6 fo _ hfo5
      generalize hg : mks (fs dd.1) dd.2 = g at *
      refine ⟨_, rfl, _, rfl, keyS g, fa, L, rfl, rfl, hs6, ?_⟩
      rw [hh6]
      have ea : ansS fs (endS fs noneS (ds.take i)) dd = (match dd.1 with | .put => !endS fs noneS (ds.take i) g | _ => endS fs noneS (ds.take i) g) := by
        subst hg
        obtain ⟨a1, a2⟩ := dd
        cases a1 <;> rfl
      have wt := walk_take (fs := fs) ed
      have et := end_take (fs := fs) ed
      generalize hT : endS fs noneS (ds.take i) = T5 at *
      refine ⟨_, rfl, .inl ⟨rfl, _, SqL.of ht6⟩, ?_⟩
      have k06 := k5.trans k6
      have wl : ((walkS fs noneS (ds.take i)).map V.bl).length < sizeLine := by rw [List.length_map, walk_len, List.length_take, sizeLine_eq]; omega
      have tfa : fa ≠ t := by rintro rfl; rw [hs6] at ht6; cases ht6
      -- what is true behind this deed
      have fin : ∀ (b : Bool) (L' : List Key) (H7 : Hp) (u5 u6 u7 u8 u9 : Option V), b = ansS fs T5 dd → H7 t = some (.lst ((walkS fs noneS (ds.take i)).map V.bl ++ [V.bl b])) → H7 fa = some (SetL P w fa L') → L'.Nodup → (∀ z, hasK L' (keyS z) = stepS fs T5 dd z) → L'.length ≤ i + 1 →
          (∀ c o, c ≠ t → c ≠ fa → H6 c = some o → H7 c = some o) → ∃ u5' u6' u7' u8' u9' L, ([some (.ref d), some (.ref l), some (.ref fo), some (.ref fa), some (.ref t), u5, u6, u7, u8, u9] : L2.St) = [some (.ref d), some (.ref l), some (.ref fo), some (.ref fa), some (.ref t), u5', u6', u7', u8', u9'] ∧ H7 fo = some (.dK (fkv o1 o2 o3)) ∧ FrmAt P w H7 fa L (endS fs noneS (ds.take (i + 1))) ∧ L.length ≤ i + 1 ∧ H7 t = some (.lst ((walkS fs noneS (ds.take (i + 1))).map V.bl)) ∧ Ext H H7 := by
        intro b L' H7 u5 u6 u7 u8 u9 eb e7 ea nd' hh' ll kk
        refine ⟨_, _, _, _, _, L', rfl, kk fo _ fot foa hfo6, ⟨ea, nd', fun z => by rw [et]; exact hh' z⟩, ll, ?_, fun c o e => kk c o ?_ ?_ (k06 c o e)⟩
        · rw [wt, List.map_append, e7, eb]; rfl
        · rintro rfl; rw [nt] at e; cases e
        · rintro rfl; rw [na] at e; cases e
      have app : ∀ b : Bool, (L2.upd H6 t (.lst ((walkS fs noneS (ds.take i)).map V.bl ++ [V.bl b]))) fa = some (SetL P w fa L) := fun b => by rw [upd_ne tfa]; exact hs6
      obtain ⟨a1, a2⟩ := dd
      cases a1
      · refine ⟨_, rfl, rfl, _, rfl, ite2 (fun _ => ?_) (fun h => absurd (decide_eq_true rfl) h)⟩
        refine ⟨_, rfl, _, rfl, t, _, _, rfl, rfl, ht6, wl, ?_⟩
        refine ⟨_, rfl, rfl, _, rfl, ite2 (fun _ => ?_) (fun h => absurd (decide_eq_true rfl) h)⟩
        refine ⟨_, rfl, ⟨fa, L, rfl, app _⟩, _, rfl, fa, keyS g, L, rfl, rfl, app _, by omega, ?_⟩
        refine fin _ _ _ _ _ _ _ _ ea.symm (by rw [upd_ne tfa.symm]; exact upd_same) upd_same (addK_nodup nd6) (fun z => ?_) (by have := addK_len (L := L) (k := keyS g); omega) fun c o c1 c2 e => by rw [upd_ne c2, upd_ne c1]; exact e
        rw [hasK_add, hh6, decide_eq_decide.mpr keyS_inj]
        subst hg; rfl
      · refine ⟨_, rfl, rfl, _, rfl, ite2 (fun h => absurd (show V.str "find" = V.str "put" from of_decide_eq_true h) (by decide +kernel)) (fun _ => ?_)⟩
        refine ⟨_, rfl, t, _, _, rfl, rfl, ht6, wl, ?_⟩
        refine ⟨_, rfl, rfl, _, rfl, ite2 (fun h => absurd (show V.str "find" = V.str "put" from of_decide_eq_true h) (by decide +kernel)) (fun _ => ?_)⟩
        refine ⟨_, rfl, rfl, _, rfl, ite2 (fun h => absurd (show V.str "find" = V.str "strike" from of_decide_eq_true h) (by decide +kernel)) (fun _ => ?_)⟩
        exact fin _ L _ _ _ _ _ _ ea.symm upd_same (app _) nd6 (fun z => hh6 z) (by omega) fun c o c1 c2 e => by rw [upd_ne c1]; exact e
      · refine ⟨_, rfl, rfl, _, rfl, ite2 (fun h => absurd (show V.str "strike" = V.str "put" from of_decide_eq_true h) (by decide +kernel)) (fun _ => ?_)⟩
        refine ⟨_, rfl, t, _, _, rfl, rfl, ht6, wl, ?_⟩
        refine ⟨_, rfl, rfl, _, rfl, ite2 (fun h => absurd (show V.str "strike" = V.str "put" from of_decide_eq_true h) (by decide +kernel)) (fun _ => ?_)⟩
        refine ⟨_, rfl, rfl, _, rfl, ite2 (fun _ => ?_) (fun h => absurd (decide_eq_true rfl) h)⟩
        refine ⟨_, rfl, ⟨fa, L, rfl, app _⟩, _, rfl, fa, keyS g, L, rfl, rfl, app _, nd6, ?_⟩
        refine fin _ _ _ _ _ _ _ _ ea.symm (by rw [upd_ne tfa.symm]; exact upd_same) upd_same (offK_nodup nd6) (fun z => ?_) (by have := offK_len (L := L) (k := keyS g); omega) fun c o c1 c2 e => by rw [upd_ne c2, upd_ne c1]; exact e
        rw [hasK_off nd6, hh6, decide_eq_decide.mpr (not_congr keyS_inj)]
        subst hg; rfl
    · rintro σ H5 ⟨u5, u6, u7, u8, u9, L, rfl, hfo5, hF5, hL5, ht5, k5⟩
      have e : ds.take (ps.map V.ref).length = ds := by rw [List.length_map, alen, List.take_length]
      rw [e] at ht5
      exact ⟨_, rfl, q t H5 nt ht5 k5⟩
end
end Pd

set_option maxHeartbeats 4000000
namespace Pd
open PySem PySem.Spec PyProof.Rows L2 SX
/-! ### what the words of a part make, tokens known -/
def spSwapT : Sp := fun vs H Q _ => ∃ (x v1 v2 : List Nat) (a b : Nat), vs = [.str (S x)] ∧ x.length ≤ 1000 ∧ spl32 x = [swapW, v1, v2] ∧ v1.map untild = [a] ∧ v2.map untild = [b] ∧ ∀ p H', SwapAt H' p (sg a) (sg b) → Ext H H' → Q (.ref p) H'
def spStepT : Sp := fun vs H Q _ => ∃ (x : List Nat) (st : Stp), vs = [.str (S x)] ∧ x.length ≤ 1000 ∧ rdP x = some st ∧ st.ok ∧ ∀ p H', StpAt H' p st → Ext H H' → Q (.ref p) H'
section
variable {P : Program} {w : World} {K : PySem.W.Frag} {mg : Str → Option Value} {base : Heap}
theorem ok_stepSwap {f : Addr} {fd : FuncData} (F : Fun K "_step_of" "_step_of" sStepOf f fd) (T : Nms mg) : FnOk P w K mg base CX0 2 f fd ["part"] spSwapT := by
  refine fnOk_1 F scStepOf (by decide +kernel) (by decide) (fun vs H Q E h => ?_) (fun cdv A outer s H vs Q E hr h => ?_)
  · obtain ⟨x, v1, v2, a, b, rfl, _⟩ := h
    rfl
  · obtain ⟨x, v1, v2, a, b, rfl, hl, es, e1, e2, q⟩ := h
    have nd := scStepOf.nd
    refine ⟨_, pssn_words (ip := 0) (iw := 1) (iv := 2) (ik := 3) (own := [("word", 3)]) (y := "~") (z := " ") (Nat.le_refl 1) rfl nd rfl rfl rfl rfl rfl rfl rfl (by decide +kernel) (by decide +kernel) (by decide) rfl rfl rfl rfl
      (pe_slice sl_M (pv 1) (po_some pe_int) po_none) (blkOk_by (N := ["part", "words", "values", "word", "value"]) (sc := defScope sStepOf) (by decide +kernel)) (by decide) (fun _ _ _ _ _ => elW (by decide) (by decide +kernel) (by decide) rfl rfl rfl) (by intro _; rfl) (sw_true rfl rfl rfl (by decide +kernel))
      (pssn_cons (psn (ps_if (pt_cmpR op_eq (pe_ix ix_list (pv 1) pe_int (fun _ _ => rfl)) pe_str (nomark _)) pss_never pss_nil))
      (pssn_one (psn_ret (pen (pe_callTy call_tupU (by rfl) T.tuple (by decide +kernel) (pa_cons (pe_op op_catU (pe_lst (pa_cons (pe_ix ix_list (pv 1) pe_int (fun _ _ => rfl)) pa_nil)) (pv 2)) pa_nil)))))), ?_⟩
    have ews : Txt.split (S x) " " = [S swapW, S v1, S v2] := by rw [splS32, es]; rfl
    obtain ⟨wl, wn⟩ := w_len (x := x)
    rw [es] at wl wn
    have hcl : ∀ c ∈ Txt.split (S x) " ", c.length ≤ 1000 := fun c hc => by
      rw [ews] at hc
      simp only [List.mem_cons, List.mem_nil_iff, or_false] at hc
      rcases hc with rfl | rfl | rfl <;> rw [S_len]
      · decide
      · exact Nat.le_trans (wl v1 (by simp)) hl
      · exact Nat.le_trans (wl v2 (by simp)) hl
    refine ⟨S x, rfl, by rw [S_len]; exact hl, by rw [ews]; show 1 < 3; decide, hcl, by rw [ews]; show 3 ≤ 1000; decide, fun p m k H1 hp tx same => ?_⟩
    rw [ews] at tx ⊢
    refine ⟨_, rfl, 1, rfl, p, m, k, _, rfl, tx, rfl, rfl, fun L H2 hL txL same2 => ⟨L, rfl, txL, fun q1 H3 hq txq same3 => ?_⟩⟩
    have alive : ∀ {Ha : Hp} {cs : List Str} {a : Addr}, TxM m k Ha a cs → Ha a ≠ none := fun {Ha cs a} ⟨_, _, e, _⟩ => by rw [e]; exact fun z => nomatch z
    have npL : p ≠ L := by rintro rfl; exact alive tx hL
    have tx2 := tx.same (same2 p npL)
    have npq : p ≠ q1 := by rintro rfl; exact alive tx2 hq
    have tx3 := tx2.same (same3 p npq)
    have kE : ∀ {Ha Hb : Hp} {a : Addr}, Ha a = none → (∀ c, c ≠ a → Hb c = Ha c) → Ext Ha Hb := fun {Ha Hb a} hn s b o e => by
      rw [s b (by rintro rfl; rw [hn] at e; cases e)]; exact e
    have k03 := ((kE hp same).trans (kE hL same2)).trans (kE hq same3)
    refine ⟨_, rfl, p, _, 0, _, rfl, rfl, tx3.seq, at0, rfl, _, rfl, ?_⟩
    rw [words_S.2.2.2.2.2, dec_S, decide_eq_false (by decide : ¬ swapW = cutW)]
    refine iteF ⟨_, rfl, p, _, 0, _, rfl, rfl, tx3.seq, at0, by show 1 ≤ sizeLine; decide, fun p1 hp1 => ?_⟩
    have npq1 : q1 ≠ p1 := by
      rintro rfl
      obtain ⟨_, _, e, _⟩ := txq
      rw [e] at hp1; cases hp1
    refine ⟨_, rfl, p1, q1, _, _, rfl, rfl, upd_same, txq.same (upd_ne npq1), by show 1 + 2 ≤ sizeLine; decide, fun p2 H5 hp2 cat same5 => ?_⟩
    refine ⟨p2, _, _, rfl, cat, fun p3 H6 hp3 cat3 same6 => ?_⟩
    have ev1 : Txt.replace (S v1) "~" " " = sg a := by rw [untild_S, e1]; rfl
    have ev2 : Txt.replace (S v2) "~" " " = sg b := by rw [untild_S, e2]; rfl
    have esw : S swapW = ("swap" : Str) := words_S.2.1.symm
    simp only [List.tail_cons, List.map_cons, List.map_nil, ev1, ev2, esw] at cat3
    exact q p3 H6 cat3.swap (((k03.trans (Ext.refl.new hp1)).trans (kE hp2 same5)).trans (kE hp3 same6))
theorem ok_stepT {f : Addr} {fd : FuncData} (F : Fun K "_step_of" "_step_of" sStepOf f fd) (T : Nms mg) (N : Cl P w K mg base 1 "_number_of" spNum) : FnOk P w K mg base CX0 2 f fd ["part"] spStepT :=
  fnOk_or (ok_stepOf F T N) (ok_stepSwap F T) fun vs H Q E h => by
    obtain ⟨x, st, rfl, hl, hr, ok, q⟩ := h
    cases es : spl32 x with
    | nil => unfold rdP at hr; rw [es] at hr; cases hr
    | cons w0 ws =>
      have hr' : rd w0 (unt ws) = some st := by unfold rdP at hr; rw [es] at hr; exact hr
      by_cases sw : w0 = swapW
      · subst sw
        refine .inr ?_
        have h2 : twoC (unt ws) = some st := by
          unfold rd at hr'
          rw [if_neg (by decide), if_pos rfl] at hr'; exact hr'
        obtain ⟨a, ha, b, hb, e, rfl⟩ := twoC_yes h2
        unfold unt at e
        match ws, e with
        | [v1, v2], e =>
          simp only [List.map_cons, List.map_nil, List.cons.injEq, and_true] at e
          exact ⟨x, v1, v2, a, b, rfl, hl, es, e.1, e.2, fun p H' sw k => q p H' sw k⟩
        | [], e => cases e
        | [_], e => simp at e
        | _ :: _ :: _ :: _, e => simp at e
      · refine .inl ⟨x, rfl, hl, fun w ws' p H' e k hp => ?_⟩
        rw [es] at e
        injection e with e1 e2
        subst e1 e2
        obtain ⟨_, ev⟩ := rd_yes hr'
        refine q p H' ?_ k
        rw [ev] at hp
        cases st with
        | swap a b =>
          exfalso
          have := congrArg List.head? ev
          simp [stpVals] at this
          exact sw (by
            have e2 := words_S.2.1
            rw [e2] at this
            exact of_decide_eq_true (by rw [← dec_S]; exact decide_eq_true (congrArg V.str this)))
        | low => exact hp
        | drop _ => exact hp
        | lead _ => exact hp
        | once _ => exact .inl hp
        | cut _ => exact hp
end
end Pd

set_option maxHeartbeats 4000000
namespace Pd
open PySem PySem.Spec PyProof.Rows L2 SX
/-! ### what is written is read -/
theorem spl_free {c0 : Nat} {s : List Nat} : ∀ (x acc y : List Nat), (∀ c ∈ x, c ≠ c0) → TL.spl (c0 :: s) 0 acc (x ++ y) = TL.spl (c0 :: s) 0 (acc ++ x) y
  | [], acc, y, _ => by rw [List.nil_append, List.append_nil]
  | c :: x, acc, y, h => by
    have hc : TL.pre (c0 :: s) (c :: (x ++ y)) = false := by
      unfold TL.pre
      have := h c (List.mem_cons_self ..)
      simp [this]
    rw [List.cons_append, TL.spl_miss hc, spl_free x _ y fun d hd => h d (List.mem_cons_of_mem _ hd), List.append_assoc]
    rfl
theorem spl_sep1 {c0 : Nat} {acc y : List Nat} : TL.spl [c0] 0 acc ([c0] ++ y) = acc :: TL.spl [c0] 0 [] y := by
  have h : TL.pre [c0] (c0 :: y) = true := by unfold TL.pre; simp
  exact TL.spl_hit h
theorem spl_sep2 {c0 c1 : Nat} {acc y : List Nat} : TL.spl [c0, c1] 0 acc ([c0, c1] ++ y) = acc :: TL.spl [c0, c1] 0 [] y := by
  have h : TL.pre [c0, c1] (c0 :: c1 :: y) = true := by unfold TL.pre; simp
  have := TL.spl_hit (acc := acc) h
  exact this
theorem spl_join {c0 : Nat} {s : List Nat} (hs : ∀ acc y, TL.spl (c0 :: s) 0 acc ((c0 :: s) ++ y) = acc :: TL.spl (c0 :: s) 0 [] y) : ∀ (p : List Nat) (ps : List (List Nat)), (∀ x ∈ p :: ps, ∀ c ∈ x, c ≠ c0) → TL.spl (c0 :: s) 0 [] (TL.joinL (c0 :: s) (p :: ps)) = p :: ps
  | p, [], h => by
    have := spl_free (s := s) p [] [] (h p (List.mem_cons_self ..))
    rw [List.append_nil] at this
    show TL.spl _ 0 [] p = [p]
    rw [this, TL.spl_nil]; rfl
  | p, q :: ps, h => by
    show TL.spl _ 0 [] (p ++ ((c0 :: s) ++ TL.joinL (c0 :: s) (q :: ps))) = _
    rw [spl_free p [] _ (h p (List.mem_cons_self ..)), List.nil_append, hs, spl_join hs q ps fun x hx => h x (List.mem_cons_of_mem _ hx)]
theorem chFacts : ∀ c ∈ CH, c ≠ 126 ∧ c ≠ 59 ∧ c ≠ 10 := by decide +kernel
theorem tild_facts {c : Nat} (h : c ∈ CH) : untild (tild c) = c ∧ tild c ≠ 32 ∧ tild c ≠ 59 ∧ tild c ≠ 10 := by
  obtain ⟨h1, h2, h3⟩ := chFacts c h
  unfold tild untild swapC
  by_cases e : c = 32
  · subst e; decide
  · rw [if_neg e]
    exact ⟨if_neg h1, e, h2, h3⟩
theorem word_facts (st : Stp) : ∀ c ∈ wordL st, c ≠ 32 ∧ c ≠ 59 ∧ c ≠ 10 := by cases st <;> (simp only [wordL]; decide)
theorem arg_facts {st : Stp} (ok : st.ok) : ∀ x ∈ argL st, ∀ c ∈ x, c ≠ 32 ∧ c ≠ 59 ∧ c ≠ 10 := by
  intro x hx c hc
  cases st with
  | low => cases hx
  | swap a b =>
    have hx : x = [tild a] ∨ x = [tild b] := by simpa [argL] using hx
    rcases hx with rfl | rfl <;> rw [List.mem_singleton.mp hc]
    · exact (tild_facts ok.1).2
    · exact (tild_facts ok.2).2
  | drop cs =>
    obtain rfl : x = cs.map tild := by simpa [argL] using hx
    obtain ⟨d, hd, rfl⟩ := List.mem_map.mp hc
    exact (tild_facts (ok.2.2.2 d hd)).2
  | lead a =>
    obtain rfl : x = [tild a] := by simpa [argL] using hx
    rw [List.mem_singleton.mp hc]; exact (tild_facts ok).2
  | once a =>
    obtain rfl : x = [tild a] := by simpa [argL] using hx
    rw [List.mem_singleton.mp hc]; exact (tild_facts ok).2
  | cut n =>
    obtain rfl : x = [48 + n] := by simpa [argL] using hx
    rw [List.mem_singleton.mp hc]
    have h1 := ok.1
    have h2 := ok.2
    omega
theorem unt_tild {l : List Nat} (h : ∀ c ∈ l, c ∈ CH) : (l.map tild).map untild = l := by
  rw [List.map_map]
  have : ∀ c ∈ l, (untild ∘ tild) c = c := fun c hc => (tild_facts (h c hc)).1
  rw [List.map_congr_left this, List.map_id']
theorem read_part {st : Stp} (ok : st.ok) : rdP (partL st) = some st := by
  have e : spl32 (partL st) = wordL st :: argL st := spl_join (fun acc y => spl_sep1) _ _ fun x hx c hc => by
    rcases List.mem_cons.mp hx with rfl | hx
    · exact (word_facts st c hc).1
    · exact (arg_facts ok x hx c hc).1
  unfold rdP
  rw [e]
  show rd (wordL st) ((argL st).map fun v => v.map untild) = some st
  have one : ∀ {a : Nat}, a ∈ CH → ([tild a].map untild) = [a] := fun h => unt_tild (l := [_]) fun c hc => by rw [List.mem_singleton.mp hc]; exact h
  cases st with
  | low =>
    show (if lowW = lowW then (if ([] : List (List Nat)) = [] then some Stp.low else none) else _) = _
    rw [if_pos rfl, if_pos rfl]
  | swap a b =>
    show rd swapW [[tild a].map untild, [tild b].map untild] = _
    rw [one ok.1, one ok.2]
    show (if swapW = lowW then _ else if swapW = swapW then twoC [[a], [b]] else _) = _
    rw [if_neg (by decide), if_pos rfl]
    show (if a ∈ CH ∧ b ∈ CH then some (Stp.swap a b) else none) = _
    exact if_pos ok
  | drop cs =>
    show rd dropW [(cs.map tild).map untild] = _
    rw [unt_tild ok.2.2.2]
    have e : rd dropW [cs] = dropC cs := by
      unfold rd
      rw [if_neg (by decide), if_neg (by decide)]
      exact if_pos rfl
    rw [e]
    show (if choB cs = true then some (Stp.drop cs) else none) = _
    rw [if_pos (ok_choB ok)]
  | lead a =>
    show rd leadW [[tild a].map untild] = _
    rw [one ok]
    have e : rd leadW [[a]] = oneC .lead [a] := by
      unfold rd
      rw [if_neg (by decide), if_neg (by decide)]
      show (if leadW = dropW then _ else if leadW = leadW then _ else _) = _
      rw [if_neg (by decide), if_pos rfl]
    rw [e]
    show (if a ∈ CH then some (Stp.lead a) else none) = _
    exact if_pos ok
  | once a =>
    show rd onceW [[tild a].map untild] = _
    rw [one ok]
    have e : rd onceW [[a]] = oneC .once [a] := by
      unfold rd
      rw [if_neg (by decide), if_neg (by decide)]
      show (if onceW = dropW then _ else if onceW = leadW then _ else if onceW = onceW then _ else _) = _
      rw [if_neg (by decide), if_neg (by decide), if_pos rfl]
    rw [e]
    show (if a ∈ CH then some (Stp.once a) else none) = _
    exact if_pos ok
  | cut n =>
    have h1 := ok.1
    have h2 := ok.2
    show rd cutW [[48 + n].map untild] = _
    have eu : [48 + n].map untild = [48 + n] := by
      show [untild (48 + n)] = _
      unfold untild; rw [if_neg (by omega)]
    rw [eu]
    have e : rd cutW [[48 + n]] = cutC [48 + n] := by
      unfold rd
      rw [if_neg (by decide), if_neg (by decide)]
      show (if cutW = dropW then _ else if cutW = leadW then _ else if cutW = onceW then _ else if cutW = cutW then _ else _) = _
      rw [if_neg (by decide), if_neg (by decide), if_neg (by decide), if_pos rfl]
    rw [e]
    show (if 49 ≤ 48 + n ∧ 48 + n ≤ 57 then some (Stp.cut (48 + n - 48)) else none) = _
    rw [if_pos (by omega), show 48 + n - 48 = n by omega]
theorem part_facts {st : Stp} (ok : st.ok) : ∀ c ∈ partL st, c ≠ 59 ∧ c ≠ 10 := by
  have key : ∀ (ps : List (List Nat)), (∀ x ∈ ps, ∀ c ∈ x, c ≠ 59 ∧ c ≠ 10) → ∀ c ∈ TL.joinL [32] ps, c ≠ 59 ∧ c ≠ 10 := by
    intro ps
    induction ps with
    | nil => intro _ c hc; cases hc
    | cons p ps ih =>
      intro h c hc
      cases ps with
      | nil => exact h p (List.mem_cons_self ..) c hc
      | cons q ps =>
        have hc : c ∈ p ++ ([32] ++ TL.joinL [32] (q :: ps)) := hc
        rcases List.mem_append.mp hc with hc | hc
        · exact h p (List.mem_cons_self ..) c hc
        · rcases List.mem_append.mp hc with hc | hc
          · rw [List.mem_singleton.mp hc]; decide
          · exact ih (fun x hx => h x (List.mem_cons_of_mem _ hx)) c hc
  exact key _ fun x hx c hc => by
    rcases List.mem_cons.mp hx with rfl | hx
    · exact (word_facts st c hc).2
    · exact (arg_facts ok x hx c hc).2
theorem read_parts {sts : List Stp} (ok : ∀ st ∈ sts, st.ok) (ne : sts ≠ []) : spl2 (ftext sts) = sts.map partL ∧ ftext sts ≠ plainL := by
  have e1 : ftext sts = TL.joinL [59, 32] (sts.map partL) := by unfold ftext; rw [if_neg ne]
  have e2 : spl2 (ftext sts) = sts.map partL := by
    rw [e1]
    cases sts with
    | nil => exact absurd rfl ne
    | cons st sts =>
      exact spl_join (fun acc y => spl_sep2) _ _ fun x hx c hc => by
        obtain ⟨s, hs, rfl⟩ := List.mem_map.mp (show x ∈ (st :: sts).map partL from hx)
        exact (part_facts (ok s hs) c hc).1
  refine ⟨e2, fun z => ?_⟩
  rw [z] at e2
  have e3 : spl2 plainL = [plainL] := by decide +kernel
  rw [e3] at e2
  match sts, ne, ok, e2 with
  | [st], _, ok, e2 =>
    have e4 : plainL = partL st := by simpa using e2
    have e5 := read_part (ok st (List.mem_singleton.mpr rfl))
    rw [← e4] at e5
    have e6 : rdP plainL = none := by decide +kernel
    rw [e6] at e5; cases e5
  | _ :: _ :: _, _, _, e2 => simp at e2
theorem ftext_facts {sts : List Stp} (ok : ∀ st ∈ sts, st.ok) : ∀ c ∈ ftext sts, c ≠ 10 := by
  have key : ∀ (ps : List (List Nat)), (∀ x ∈ ps, ∀ c ∈ x, c ≠ 10) → ∀ c ∈ TL.joinL [59, 32] ps, c ≠ 10 := by
    intro ps
    induction ps with
    | nil => intro _ c hc; cases hc
    | cons p ps ih =>
      intro h c hc
      cases ps with
      | nil => exact h p (List.mem_cons_self ..) c hc
      | cons q ps =>
        have hc : c ∈ p ++ ([59, 32] ++ TL.joinL [59, 32] (q :: ps)) := hc
        rcases List.mem_append.mp hc with hc | hc
        · exact h p (List.mem_cons_self ..) c hc
        · rcases List.mem_append.mp hc with hc | hc
          · simp only [List.mem_cons, List.mem_nil_iff, or_false] at hc
            rcases hc with rfl | rfl <;> decide
          · exact ih (fun x hx => h x (List.mem_cons_of_mem _ hx)) c hc
  intro c hc
  unfold ftext at hc
  by_cases e : sts = []
  · rw [if_pos e] at hc
    revert c; decide
  · rw [if_neg e] at hc
    exact key _ (fun x hx c hc => by
      obtain ⟨s, hs, rfl⟩ := List.mem_map.mp hx
      exact (part_facts (ok s hs) c hc).2) c hc
end Pd

set_option maxHeartbeats 4000000
namespace Pd
open PySem PySem.Spec PyProof.Rows L2 SX
/-! ### a folding read from its text -/
structure FolN (P : Program) (w : World) (K : PySem.W.Frag) (mg : Str → Option Value) (base : Heap) (C : Addr) : Prop where
  ex : ∃ (f : Addr) (fd : FuncData) (ds : List Value) (e : Addr), Mk K C f ∧ FnOk P w K mg base CX0 4 f fd ["self", "steps"] (spFInit K C) ∧ Vals [V.ref e] ds ∧ Binds K fd ["self", "steps"] ds ∧ ∀ H, RowAt K H e []
theorem Al.snocT {H : Hp} {p : Addr} {st : Stp} (hp : StpAt H p st) (ok : st.ok) : ∀ {ps : List Addr} {sts : List Stp}, Al H ps sts → Al H (ps ++ [p]) (sts ++ [st])
  | _, _, .nil => .cons hp ok .nil
  | _, _, .cons h o r => .cons h o (r.snocT hp ok)
def spReadT (K : PySem.W.Frag) (C : Addr) : Sp := fun vs H Q _ => ∃ sts, vs = [.str (S (ftext sts))] ∧ (∀ st ∈ sts, st.ok) ∧ sts.length ≤ 6 ∧ ∀ o r H', Ext H H' → FoldAt K C H' o r sts → Q (.ref o) H'
section
variable {P : Program} {w : World} {K : PySem.W.Frag} {mg : Str → Option Value} {base : Heap}
theorem ok_readT {f Cf : Addr} {fd : FuncData} (F : Fun K "read_folding" "read_folding" sReadFolding f fd) (T : Nms mg) (C : CstR mg) (Z : Fcl K mg Cf) (Y : Fol P w K mg base Cf) (Y0 : FolN P w K mg base Cf) (GS : Cl P w K mg base 2 "_step_of" spStepT) (GI : Cl P w K mg base 3 "is_step" spIsStep) : FnOk P w K mg base CX0 6 f fd ["text"] (spReadT K Cf) := by
  refine F.ok scReadFolding (fun vs H Q E h => ?_) (fun cdv A outer s H vs Q E hr h => ?_)
  · obtain ⟨sts, rfl, _⟩ := h
    rfl
  · obtain ⟨sts, rfl, ok, h6, q⟩ := h
    have nd := scReadFolding.nd
    obtain ⟨fm, fdm, M, FM, bM⟩ := Y.made
    obtain ⟨f0, fd0, ds0, ed, M0, FI0, rd0, b0, R0⟩ := Y0.ex
    obtain ⟨tb, hb⟩ := C.between
    obtain ⟨tw, hw⟩ := C.without
    refine ⟨_, pss_cons (ps_if (pt_not (pt_val (pe_callB call_isi (by rfl) T.isi (by decide +kernel) (pa_cons (pv 0) (pa_cons (pe_bltn (v := .ty "str") (by rfl) T.str (by decide +kernel) rfl) pa_nil))))) pss_never pss_nil)
      (pss_cons (ps_if (pt_cmpR op_eq (pv 0) (pe_glob (v := .str "plain") rfl hw ⟨_, rfl⟩) (nomark _)) (pss_one (ps_ret (pe_make0 M0 FI0 (hr.mono (by decide)) rfl Z.mgC b0 rd0 pass0))) pss_nil)
      (pss_cons (ps_set (i := 1) nd rfl (Or.inl rfl) (pe_lst pa_nil))
      (pss_cons (ps_for PassesOwn.never rfl (pi_enum (by rfl) T.enum (pa_cons (pe_split (pv 0) (pe_glob (v := .str "; ") rfl hb ⟨_, rfl⟩)) pa_nil)) (pg_tup (by rfl) (pgs_cons (pg_name (i := 2) nd rfl (Or.inl rfl)) (pgs_cons (pg_name (i := 3) nd rfl (Or.inl rfl)) pgs_nil)))
        (pss_cons (ps_set (i := 4) nd rfl (Or.inl rfl) (pe_cl GS hr (by decide) rfl (pa_cons (pv 3) pa_nil)))
        (pss_cons (ps_if (pt_not (pt_val (pe_cl GI hr (by decide) rfl (pa_cons (pv 4) pa_nil)))) pss_never pss_nil)
        (pss_one (ps_expr (pe_bm PySem.F.plainAttrs_list PySem.F.slot_list_append PySem.F.type_list_append mt_append (pv 1) (pa_cons (pv 4) pa_nil)))))))
      (pss_one (ps_ret (pe_make M FM (hr.mono (by decide)) rfl Z.mgC bM .nil pass0 (pa_cons (pe_callTy call_tuple_of (by rfl) T.tuple (by decide +kernel) (pa_cons (pv 1) pa_nil)) pa_nil))))))), ?_⟩
    have fl := ftext_len ok h6
    refine ⟨_, rfl, _, _, _, _, true, rfl, .ty "str", .base (.str _), kit_ty (by decide +kernel), true, rfl, iteF ?_⟩
    refine ⟨_, rfl, rfl, _, rfl, ?_⟩
    rw [plain_S, dec_S]
    by_cases hp : sts = []
    · subst hp
      have e0 : ftext [] = plainL := rfl
      rw [decide_eq_true e0]
      exact iteT fun o dx ho hdx ne => made_ask (R0 H) (Nat.zero_le _) ho hdx ne fun H1 F1 k1 => ⟨rfl, q o ed H1 k1 F1⟩
    obtain ⟨er, np⟩ := read_parts ok hp
    rw [decide_eq_false np]
    obtain ⟨x, ex⟩ : ∃ x, x = ftext sts := ⟨_, rfl⟩
    rw [← ex] at er np fl ⊢
    refine iteF ⟨by show 0 ≤ sizeLine; decide, fun st hst => ?_⟩
    have kst : Ext H (L2.upd H st (.lst [])) := Ext.refl.new hst
    refine ⟨_, rfl, ⟨_, rfl⟩, _, _, rfl, rfl, by decide +kernel, by rw [S_len, sizeLine_eq]; omega, fun pl hpl => ?_⟩
    have npl : st ≠ pl := by rintro rfl; rw [upd_same] at hpl; cases hpl
    have k0 : Ext H (L2.upd (L2.upd H st (.lst [])) pl (.lst ((Txt.split (S x) "; ").map V.str))) := kst.trans (Ext.refl.new hpl)
    refine ⟨pl, _, rfl, SqL.of upd_same, ?_⟩
    rw [splS2, er]
    have xsl : ((((sts.map partL).map S).map V.str).length) = sts.length := by rw [List.length_map, List.length_map, List.length_map]
    refine for_it (walk_enum (xs := ((sts.map partL).map S).map V.str)) (fun i σ H' => ∃ u2 u3 u4 ps, σ = [some (.str (S x)), some (.ref st), u2, u3, u4] ∧ H' st = some (.lst (ps.map V.ref)) ∧ H' pl = some (.lst (((sts.map partL).map S).map V.str)) ∧ Al H' ps (sts.take i) ∧ Ext H H') ⟨none, none, none, [], rfl, ?_, ?_, .nil, ?_⟩ (fun i σ H' _ p => by
      obtain ⟨u2, u3, u4, ps, _, _, h, _⟩ := p
      exact SqL.of h) ?_ ?_
    · rw [upd_ne npl]; exact upd_same
    · rw [upd_same]
    · rw [splS2, er] at k0; exact k0
    · rintro i y σ H2 H3 hi ⟨u2, u3, u4, ps, rfl, h1, h2, al, k2⟩ ⟨Ta, x1, y1, rfl, hT, rfl, e1, e2⟩
      obtain rfl := Option.some.inj e1
      replace e2 : (((sts.map partL).map S).map V.str)[i]? = some y1 := e2
      rw [List.getElem?_map, List.getElem?_map, List.getElem?_map] at e2
      obtain ⟨z, hz, rfl⟩ := Option.map_eq_some_iff.mp e2
      obtain ⟨y, hy, rfl⟩ := Option.map_eq_some_iff.mp hz
      obtain ⟨s0, hs0, rfl⟩ := Option.map_eq_some_iff.mp hy
      have ok0 := ok s0 (List.mem_of_getElem? hs0)
      have k3 : Ext H2 (L2.upd H2 Ta (.tup [V.int (i : Nat), .str (S (partL s0))])) := Ext.refl.new hT
      refine ⟨Ta, _, rfl, SqT.of upd_same, rfl, _, _, rfl, _, _, rfl, rfl, ?_⟩
      refine ⟨_, rfl, partL s0, s0, rfl, Nat.le_trans (part_len ok0) (by decide), read_part ok0, ok0, fun p H4 hp4 k4 => ?_⟩
      have k24 := k3.trans k4
      have k04 := k2.trans k24
      refine ⟨_, rfl, p, s0, rfl, hp4, ok0, fun H5 k5 => ⟨true, rfl, iteF ?_⟩⟩
      have h5 := k5 st _ (k24 st _ h1)
      have li : ps.length ≤ 6 := by rw [al.len, List.length_take]; omega
      refine ⟨_, rfl, .inl ⟨rfl, _, SqL.of h5⟩, _, rfl, st, _, _, rfl, rfl, h5, by rw [List.length_map, sizeLine_eq]; omega, ?_⟩
      have al5 : Al H5 ps (sts.take i) := (al.ext k24).ext k5
      have kk : Kp st H5 (L2.upd H5 st (.lst (ps.map V.ref ++ [.ref p]))) := .upd
      refine ⟨_, _, _, ps ++ [p], rfl, by rw [upd_same, List.map_append]; rfl, ?_, ?_, fun b o e => ?_⟩
      · rw [upd_ne npl.symm]; exact k5 pl _ (k24 pl _ h2)
      · rw [List.take_add_one, hs0]
        exact (al5.kp kk h5).snocT ((hp4.ext k5).kp kk h5) ok0
      · rw [upd_ne (ne_of_none e hst)]; exact k5 b o (k04 b o e)
    · rintro σ H2 ⟨u2, u3, u4, ps, rfl, h1, h2, al, k2⟩
      rw [xsl, List.take_length] at al
      refine ⟨_, rfl, st, _, rfl, .inl ⟨SqL.of h1, fun tl htl => ?_⟩⟩
      have kt : Ext H2 (L2.upd H2 tl (.tup (ps.map V.ref))) := Ext.refl.new htl
      have RQ : RowAt K (L2.upd H2 tl (.tup (ps.map V.ref))) tl sts := ⟨ps, SqT.of upd_same, al.ext kt⟩
      exact fun y dy hy hdy ne => made_ask RQ h6 hy hdy ne fun H3 F3 k3 => ⟨rfl, q y tl H3 ((k2.trans kt).trans k3) F3⟩
end
end Pd

set_option maxHeartbeats 4000000
namespace Pd
open PySem PySem.Spec PyProof.Rows L2
/-! ### try: .. except A as n: .. except B as n: .. -/
/-- one clause after another, each with the name n at slot i -/
def wAs2 (K : PySem.W.Frag) (i : Nat) (Wout : WX) (D : Ends) : List (Value × (Addr → Value → Option Addr → TS)) → WX
  | [] => Wout
  | (c, ts) :: r => wAs K c i ts (wAs2 K i Wout D r) D
inductive HdN (X : Cx) (n : Str) : List ExceptHandler → List (Value × (Addr → Value → Option Addr → TS)) → Prop
  | nil : HdN X n [] []
  | cons {x : Str} {c : Value} {ts : Addr → Value → Option Addr → TS} {st : Stmt} {sts : List Stmt} {p1 p2 : Pos} {hs : List ExceptHandler} {l : List (Value × (Addr → Value → Option Addr → TS))} (names : Names X x c)
      (body : ∀ (a : Addr) (o : Obj) (cls : Value) (d : Option Addr) (pn : List (Addr × Obj)), Zc cls d o → (∃ fs, o.data = .fields fs) → PSs (X.suite a ((a, o) :: pn)) (st :: sts) (ts a cls d)) (rest : HdN X n hs l) :
      HdN X n (.ExceptHandler (some (.Name x p1)) (some n) (st :: sts) p2 :: hs) ((c, ts) :: l)
section
variable {X : Cx} {n : Str} {i : Nat} {body : List Stmt} {h0 : ExceptHandler} {hs : List ExceptHandler} {l : List (Value × (Addr → Value → Option Addr → TS))} {pos : Pos} {tb : WX → TS} {Wout : WX}
theorem ps_try_named (stk : X.stack = X.env :: X.outer) (frm : X.env.frame = some X.env.locals) (nd : X.N.Nodup) (at_ : X.N[i]? = some n) (kind : X.env.kindOf n = some .local) (out : Takes X Wout)
    (run : ∀ (W : WX) (pn : List (Addr × Obj)) (xe : Value → Shared → Prop), Takes (X.tr pn xe) W → PassesOwn (model X.prog X.w) X.A X.env xe → PSs (X.tr pn xe) body (tb W)) (hd : HdN X n (h0 :: hs) l) :
    PS X (.Try body (h0 :: hs) [] [] pos) (fun D σ H => tb (wAs2 X.K i Wout D l) D σ H) := by
  constructor
  intro pins s σ H D I h
  have ok := I.ok
  have frs_ : X.A.frames = some (X.env :: X.outer) := ok.frames.trans (congrArg _ stk)
  refine wpAny_Try_except (wpAny_mono ((run (wAs2 X.K i Wout D l) (X.pn ++ pins) (fun e s₁ => wpAny (model X.prog X.w) X.A (noteFrame e X.env) (fun _ s₂ => wpAny (model X.prog X.w) X.A (setFlight e none) (fun _ s₃ =>
    wpAny (model X.prog X.w) X.A (handleBy e X.env (h0 :: hs)) (SP X pins D) X.xe s₃) X.xe s₂) X.xe s₁) ?_ PassesOwn.looking).run [] s σ H D (I.toTry _) h) ?_ fun _ _ z => z)
  · rintro u s' ⟨a, B, sI, pins', σ', H', cls, d, rfl, J', nb, up, sky, na, os, ag, w⟩
    have J : Inv X pins σ' H' sI := J'.ofTry ok
    rw [stk] at sky
    show wpAny _ X.A (noteFrame (.ref a) X.env) _ _ _
    refine Sky.land Zc.steady frs_ frm sky fun h3 land up3 => ?_
    have J3 : Inv X pins σ' H' { s' with heap := h3 } := J.landed nb land.1 (up.trans up3) os ag
    obtain ⟨o3, fs3, at3, z3, d3⟩ := land.there
    have apart : a ∉ frs (X.env :: X.outer) := fun m => by
      obtain ⟨_, o', e', no⟩ := land.2.2.1.mem m
      rw [at3] at e'; cases e'
      exact no _ d3
    have nl : a ≠ X.env.locals := fun z => apart (List.mem_filterMap.mpr ⟨X.env, List.mem_cons_self, by rw [frm, z]⟩)
    have nf : a ∉ X.fs := fun m => by
      obtain ⟨e, he, q⟩ := List.mem_filterMap.mp m
      exact apart (List.mem_filterMap.mpr ⟨e, List.mem_cons_of_mem _ he, q⟩)
    have S3 := J3.suite at3 d3 na nl nf
    have LT : PySem.W.Looks (model X.prog X.w) h3 (typeOf (.ref a)) cls := fun A Q E s k q => wpAny_typeOf_ref (k _ _ at3) (by rw [z3.1]; exact q)
    suffices go : ∀ {hs' : List ExceptHandler} {l' : List (Value × (Addr → Value → Option Addr → TS))}, HdN X n hs' l' → wAs2 X.K i Wout D l' cls d σ' H' →
        wpAny (model X.prog X.w) X.A (handleBy (.ref a) X.env hs') (SP X pins D) X.xe { s' with heap := h3 } from go hd w
    intro hs' l' hk
    induction hk with
    | nil =>
      intro w
      refine wpAny_handleBy_nil ?_
      obtain ⟨_, _, _, oe, vs, Tb, oT, _, he, _, hdt, h1, _⟩ := id land
      unfold PySem.passOn
      refine wpAny_bind (wpAny_field he hdt h1 ?_)
      rw [if_neg (show ¬ ((Value.ref Tb == Value.none) = true) from by simp)]
      have up_ : wpAny (model X.prog X.w) X.A (setFlight (.ref a) X.env.frame) (fun _ s4 => wpAny (model X.prog X.w) X.A (throw (.ref a) : Sem Flow) (SP X pins D) X.xe s4) X.xe { s' with heap := h3 } := by
        rw [frm]
        refine HandSPX.setFlight_upZ land fun h4 sky4 up4 => wpAny_throw (out _ _ ?_)
        exact ⟨a, B, sI, pins, σ', H', cls, d, rfl, J, nb, (up.trans up3).trans up4, .inr (.inr (by rw [stk]; exact sky4)), na, os, ag, w⟩
      first
        | exact wpAny_bind (wpAny_pure (wpAny_bind up_))
        | exact wpAny_bind up_
    | @cons x c ts st sts p1 p2 hs2 l2 names suite rest ih =>
      rintro ⟨b, hb1, yes, no⟩
      refine wpAny_handleBy_cons (codeAny_handlers_test ?_) (by intro q; cases q)
      have LM := PySem.W.exm_one (M := model X.prog X.w) (J3.kIn) LT hb1
      have named : ∀ {Q : Value → Shared → Prop} {E : Value → Shared → Prop}, Q c { s' with heap := h3 } → wpAny (model X.prog X.w) (X.A.mark (some (.ref a))) (eval (.Name x p1) X.env) Q E { s' with heap := h3 } := by
        intro Q E q
        obtain ⟨hg, hdb, hm | ⟨hm, hv, hnn⟩⟩ := names
        · exact ld_glob (X := X.suite a ((a, o3) :: (X.pn ++ pins))) S3 hg hm q hdb
        · exact ld_blt (X := X.suite a ((a, o3) :: (X.pn ++ pins))) S3 hg hm hv q hnn hdb
      refine named (LM.here ?_)
      cases b with
      | false =>
        show wpAny _ X.A (handleBy (.ref a) X.env hs2) _ _ _
        exact ih (no rfl)
      | true =>
        refine codeAny_handlers_suite_as (HandSPX.lands_againZ land fun h4 land4 up4 => ?_)
        have J4 : Inv X pins σ' H' { s' with heap := h4 } := J.landed nb land4.1 ((up.trans up3).trans up4) os ag
        obtain ⟨o4, fs4, at4, z4, d4⟩ := land4.there
        refine store_ok (X := X.suite a ((a, o4) :: (X.pn ++ pins))) (v := .ref a) (J4.suite at4 d4 na nl nf) nd at_ (.inl kind) rfl (fun s5 S5 => ?_) (.inr kind)
        refine wpAny_mono ((suite a o4 cls d (X.pn ++ pins) z4 ⟨_, d4⟩).run [] s5 _ H' _ S5 (yes rfl a na)) (fun f s6 hsp => ?_) fun _ _ z => z.elim
        have gone : ∀ {σ6 : L2.St} {H6 : Hp} {Q : Shared → Prop}, Inv (X.suite a ((a, o4) :: (X.pn ++ pins))) [] σ6 H6 s6 → (∀ s7, Inv X pins (σ6.set i none) H6 s7 → Q s7) →
            wpAny (model X.prog X.w) X.A (do bindName X.env n .none; unbindBehindTheSuite X.env n p2) (fun _ s7 => Q s7) X.xe s6 := fun S6 k => gone_ok (S6.unsuite ok) nd at_ kind k
        cases f with
        | ret u =>
          obtain ⟨v6, σ6, H6, S6, r6, q6⟩ := hsp
          exact gone S6 fun s7 J7 => ⟨_, _, _, J7, r6, q6⟩
        | next =>
          obtain ⟨σ6, H6, S6, q6⟩ := hsp
          exact gone S6 fun s7 J7 => ⟨_, _, J7, q6⟩
        | brk =>
          obtain ⟨σ6, H6, S6, q6⟩ := hsp
          exact gone S6 fun s7 J7 => ⟨_, _, J7, q6⟩
        | cont =>
          obtain ⟨σ6, H6, S6, q6⟩ := hsp
          exact gone S6 fun s7 J7 => ⟨_, _, J7, q6⟩
  · intro f s1 hsp
    cases f with
    | ret u =>
      obtain ⟨v, σ', H', J', r, q⟩ := hsp
      exact ⟨v, σ', H', J'.ofTry ok, r, q⟩
    | next =>
      obtain ⟨σ', H', J', q⟩ := hsp
      exact wpAny_execs_nil ⟨σ', H', J'.ofTry ok, q⟩
    | brk =>
      obtain ⟨σ', H', J', q⟩ := hsp
      exact ⟨σ', H', J'.ofTry ok, q⟩
    | cont =>
      obtain ⟨σ', H', J', q⟩ := hsp
      exact ⟨σ', H', J'.ofTry ok, q⟩
end
end Pd

set_option maxHeartbeats 4000000
namespace Pd
open PySem PySem.Spec PyProof.Rows L2 L2H
/-! ### try: .. except (A, B): a suite that may raise -/
theorem flying_keeps {h h' B : Heap} {l : List Env} {a : Addr} {Z : Obj → Prop} (k : ∀ b o, h.get? b = some o → h'.get? b = some o) (f : HandSPX.FlyingZ B l a Z h) : HandSPX.FlyingZ B l a Z h' := by
  obtain ⟨f1, f2, f3, oe, vs, T, oT, ts, he, hz, hd, h1, hn, ht, hT, hdT, h3⟩ := f
  exact ⟨fun b o e => k b o (f1 b o e), f2, f3.of_keeps fun b o e _ => ⟨o, k b o e, rfl⟩, oe, vs, T, oT, ts, k _ _ he, hz, hd, h1, hn, ht, k _ _ hT, hdT, h3⟩
def wPair (K : PySem.W.Frag) (c1 c2 : Value) (ts : Addr → Value → Option Addr → TS) (D : Ends) : WX := fun cls d σ H => PySem.W.exmAny K cls [c1, c2] = some true ∧ ∀ a, H a = none → ts a cls d D σ H
theorem ps_try_pair {X : Cx} {x1 x2 : Str} {C1 C2 : Addr} {body sts : List Stmt} {st : Stmt} {p1 p2 tp pos pos' : Pos} {kk : Nat} {tb : WX → TS} {ts : Addr → Value → Option Addr → TS} {Wout : WX} (stk : X.stack = X.env :: X.outer) (frm : X.env.frame = some X.env.locals) (g1 : Gl X x1) (m1 : X.mg x1 = some (.ref C1)) (g2 : Gl X x2) (m2 : X.mg x2 = some (.ref C2))
    (hpa : ∀ hd : Option Value, PassesOwnAt (model X.prog X.w) (X.A.mark hd) X.A X.env X.xe) (out : Takes X Wout) (run : ∀ (W : WX) (pn : List (Addr × Obj)) (xe : Value → Shared → Prop), L2N.Takes (X.tr pn xe) W → PassesOwn (model X.prog X.w) X.A X.env xe → PSs (X.tr pn xe) body (tb W))
    (suite : ∀ (a : Addr) (o : Obj) (cls : Value) (d : Option Addr) (pn : List (Addr × Obj)), L2N.Zn cls d o → (∃ fs, o.data = .fields fs) → Takes (suiteX X a ((a, o) :: pn)) Wout → HotC (suiteX X a ((a, o) :: pn)) → PSs (suiteX X a ((a, o) :: pn)) (st :: sts) (ts a cls d))
    (d1 : (x1 == ("__debug__" : Str)) = false := by decide) (d2 : (x2 == ("__debug__" : Str)) = false := by decide) :
    PS X (.Try body [.ExceptHandler (some (.Tuple [.Name x1 p1, .Name x2 p2] kk tp)) none (st :: sts) pos'] [] [] pos) (fun D σ H => tb (wPair X.K (.ref C1) (.ref C2) ts D) D σ H) := by
  constructor
  intro pins s σ H D I h
  have ok := I.ok
  have frs_ : X.A.frames = some (X.env :: X.outer) := ok.frames.trans (congrArg _ stk)
  refine wpAny_Try_except (wpAny_mono ((run (wPair X.K (.ref C1) (.ref C2) ts D) (X.pn ++ pins) (fun e s₁ => wpAny (model X.prog X.w) X.A (noteFrame e X.env) (fun _ s₂ => wpAny (model X.prog X.w) X.A (setFlight e none) (fun _ s₃ =>
    wpAny (model X.prog X.w) X.A (handleBy e X.env [.ExceptHandler (some (.Tuple [.Name x1 p1, .Name x2 p2] kk tp)) none (st :: sts) pos']) (SP X pins D) X.xe s₃) X.xe s₂) X.xe s₁) ?_ PassesOwn.looking).run [] s σ H D (I.toTry _) h) ?_ fun _ _ z => z)
  · rintro u s' ⟨a, B, sI, pins', σ', H', cls, d, rfl, J', nb, up, sky, na, os, ag, hit, w⟩
    have J : Inv X pins σ' H' sI := J'.ofTry ok
    rw [stk] at sky
    show wpAny _ X.A (noteFrame (.ref a) X.env) _ _ _
    refine L2N.Sky.land L2N.Zn.steady frs_ frm sky fun h3 land up3 => ?_
    have J3 : Inv X pins σ' H' { s' with heap := h3 } := J.landed nb land.1 (up.trans up3) os ag
    obtain ⟨o3, fs3, at3, z3, dd3⟩ := land.there
    have apart : a ∉ frs (X.env :: X.outer) := fun m => by
      obtain ⟨_, o', e', no⟩ := land.2.2.1.mem m
      rw [at3] at e'; cases e'
      exact no _ dd3
    have nl : a ≠ X.env.locals := fun z => apart (List.mem_filterMap.mpr ⟨X.env, List.mem_cons_self, by rw [frm, z]⟩)
    have nf : a ∉ X.fs := fun m => by
      obtain ⟨e, he, q⟩ := List.mem_filterMap.mp m
      exact apart (List.mem_filterMap.mpr ⟨e, List.mem_cons_of_mem _ he, q⟩)
    have S3 := J3.suite at3 dd3 na nl nf
    refine wpAny_handleBy_cons (codeAny_handlers_test ?_) (by intro q; cases q)
    refine wpAny_Tuple (wpAny_items_cons (ld_glob (X := X.suite a ((a, o3) :: (X.pn ++ pins))) S3 g1 m1 (wpAny_items_cons (ld_glob (X := X.suite a ((a, o3) :: (X.pn ++ pins))) S3 g2 m2 (wpAny_items_nil ⟨by show 2 ≤ sizeLine; decide, ?_⟩) d2)) d1))
    -- the pair is laid
    have kp : ∀ b o, h3.get? b = some o → (h3.push { cls := .type "tuple", data := .seq [Value.ref C1, Value.ref C2].toArray }).get? b = some o := fun _ _ z => Heap.get?_push_of_some _ z
    have LT : PySem.W.Looks (model X.prog X.w) (h3.push { cls := .type "tuple", data := .seq [Value.ref C1, Value.ref C2].toArray }) (typeOf (.ref a)) cls := fun A Q E s k q => wpAny_typeOf_ref (k _ _ (kp _ _ at3)) (by rw [z3.1]; exact q)
    have land' := flying_keeps kp land
    have up' : sI.heap.UpToSlots (h3.push { cls := .type "tuple", data := .seq [Value.ref C1, Value.ref C2].toArray }) := (up.trans up3).trans (Heap.UpToSlots.of_keeps kp)
    refine (PySem.W.exm_tup2 (M := model X.prog X.w) (J3.kIn.keeps kp) LT (Heap.get?_push_size h3 rfl) hit).here ?_
    refine codeAny_handlers_suite (HandSPX.lands_againZ land' fun h4 land4 up4 => ?_)
    have J4 : Inv X pins σ' H' { s' with heap := h4 } := J.landed nb land4.1 (up'.trans up4) os ag
    obtain ⟨o4, fs4, at4, z4, d4⟩ := land4.there
    have tkS : Takes (suiteX X a ((a, o4) :: (X.pn ++ pins))) Wout := fun u2 s2 ⟨a2, B2, sI2, pn2, σ2, H2, cls2, dd2, e2, I2, r⟩ => out u2 s2 ⟨a2, B2, sI2, pins, σ2, H2, cls2, dd2, e2, unsuiteX I2 ok, r⟩
    have hot : HotC (suiteX X a ((a, o4) :: (X.pn ++ pins))) := ⟨(a, o4), ⟨rfl, fs4, d4, z4.2.2 fs4 d4⟩, List.mem_cons_self⟩
    refine wpAny_mono ((suite a o4 cls d (X.pn ++ pins) z4 ⟨_, d4⟩ tkS hot).run [] _ _ H' _ (suiteX_of (J4.suite at4 d4 na nl nf)) (w a na)) (fun f s6 hsp => ?_) (fun e6 s6 z => hpa (some (.ref a)) e6 s6 z)
    cases f with
    | ret u =>
      obtain ⟨v6, σ6, H6, S6, r6, q6⟩ := hsp
      exact ⟨_, _, _, unsuiteX S6 ok, r6, q6⟩
    | next =>
      obtain ⟨σ6, H6, S6, q6⟩ := hsp
      exact ⟨_, _, unsuiteX S6 ok, q6⟩
    | brk =>
      obtain ⟨σ6, H6, S6, q6⟩ := hsp
      exact ⟨_, _, unsuiteX S6 ok, q6⟩
    | cont =>
      obtain ⟨σ6, H6, S6, q6⟩ := hsp
      exact ⟨_, _, unsuiteX S6 ok, q6⟩
  · intro f s1 hsp
    cases f with
    | ret u =>
      obtain ⟨v, σ', H', J', r, q⟩ := hsp
      exact ⟨v, σ', H', J'.ofTry ok, r, q⟩
    | next =>
      obtain ⟨σ', H', J', q⟩ := hsp
      exact wpAny_execs_nil ⟨σ', H', J'.ofTry ok, q⟩
    | brk =>
      obtain ⟨σ', H', J', q⟩ := hsp
      exact ⟨σ', H', J'.ofTry ok, q⟩
    | cont =>
      obtain ⟨σ', H', J', q⟩ := hsp
      exact ⟨σ', H', J'.ofTry ok, q⟩
end Pd

set_option maxHeartbeats 4000000
namespace Pd
open PySem PySem.Spec PyProof.Rows L2 L2H
/-! ### a try whose body raises nothing -/
theorem ps_try_quiet {X : Cx} {body : List Stmt} {h : ExceptHandler} {hs : List ExceptHandler} {pos : Pos} {tb : TS} (run : ∀ pn : List (Addr × Obj), PSs (X.tr pn fun _ _ => False) body tb) : PS X (.Try body (h :: hs) [] [] pos) tb := by
  constructor
  intro pins s σ H D I q
  have ok := I.ok
  refine wpAny_Try_except (wpAny_mono ((run (X.pn ++ pins)).run [] s σ H D (I.toTry _) q) ?_ fun _ _ z => z.elim)
  intro f s1 hsp
  cases f with
  | ret u =>
    obtain ⟨v, σ', H', J', r, q⟩ := hsp
    exact ⟨v, σ', H', J'.ofTry ok, r, q⟩
  | next =>
    obtain ⟨σ', H', J', q⟩ := hsp
    exact wpAny_execs_nil ⟨σ', H', J'.ofTry ok, q⟩
  | brk =>
    obtain ⟨σ', H', J', q⟩ := hsp
    exact ⟨σ', H', J'.ofTry ok, q⟩
  | cont =>
    obtain ⟨σ', H', J', q⟩ := hsp
    exact ⟨σ', H', J'.ofTry ok, q⟩
end Pd

set_option maxHeartbeats 4000000
namespace Pd
open PySem PySem.Spec PyProof.Rows L2 SX
/-! ### doors read from their text -/
theorem starts_S (a b : List Nat) : Txt.startswith (S a) (S b) = decide (a.take b.length = b) := by
  unfold Txt.startswith
  rw [show Builtin.Str.subAt (S a) (S b) 0 = (((S a).cps.toList.drop 0).take (S b).length == (S b).cps.toList) from StrLaws.subAt_eq (S a) (S b) 0]
  show (decide (0 + (S b).length ≤ (S a).length) && (List.take (S b).length (List.drop 0 a) == b)) = _
  rw [S_len, S_len, List.drop_zero, Nat.zero_add]
  by_cases h : a.take b.length = b
  · have hl : b.length ≤ a.length := by
      have := congrArg List.length h
      rw [List.length_take] at this
      omega
    rw [decide_eq_true h, decide_eq_true hl, Bool.true_and, h]
    exact beq_self_eq_true b
  · rw [decide_eq_false h, beq_eq_false_iff_ne.mpr h, Bool.and_false]
def spFOfT (K : PySem.W.Frag) (C : Addr) : Sp := fun vs H Q _ => ∃ (i : Nat) (hd : List Nat) (sts : List Stp), vs = [.int (i : Nat), .str (S (hd ++ ftext sts))] ∧ headsL[i]? = some hd ∧ (∀ st ∈ sts, st.ok) ∧ sts.length ≤ 6 ∧ ∀ o r H', Ext H H' → FoldAt K C H' o r sts → Q (.ref o) H'
section
variable {P : Program} {w : World} {K : PySem.W.Frag} {mg : Str → Option Value} {base : Heap}
theorem ok_fofT {f Cf : Addr} {fd : FuncData} (F : Fun K "_folding_of" "_folding_of" sFoldingOf f fd) (T : Nms mg) (C : CstD K mg) (R : Cl P w K mg base 6 "read_folding" (spReadT K Cf)) : FnOk P w K mg base CX0 7 f fd ["at", "line"] (spFOfT K Cf) := by
  refine F.ok scFoldingOf (fun vs H Q E h => ?_) (fun cdv A outer s H vs Q E hr h => ?_)
  · obtain ⟨i, hd, sts, rfl, _⟩ := h
    rfl
  · obtain ⟨i, hd, sts, rfl, eh, ok, h6, q⟩ := h
    have nd := scFoldingOf.nd
    obtain ⟨Bd, hB, sB⟩ := C.heads
    refine ⟨_, pss_cons (ps_if (PW.pt (pw_or (pt_cmpR op_ge (pv 0) (pe_callB call_len_seq (by rfl) T.len PySem.boot_len (pa_cons (pe_glob (v := .ref Bd) rfl hB rfl) pa_nil)) (nomark _))
          (pw_or1 (pt_not (pt_val (pe_m1 PySem.F.slot_str_startswith PySem.F.type_str_startswith mt_startswith (pv 1) (pe_ix ix_tup (pe_glob (v := .ref Bd) rfl hB rfl) (pv 0) (fun _ _ => rfl)))))))) pss_never pss_nil)
      (pss_one (ps_try_quiet fun pn => pss_one (ps_ret (pe_cl R hr (by decide) rfl (pa_cons (pe_slice C8.sl_txt (pv 1) (po_some (pe_callB call_len_str (by rfl) T.len PySem.boot_len (pa_cons (pe_ix (ix_tupK (K := K) rfl) (pe_glob (v := .ref Bd) rfl hB rfl) (pv 0) (fun _ _ => rfl)) pa_nil))) po_none) pa_nil))))), ?_⟩
    have l4 : (((headsL.map S).map V.str).length : Int) = 4 := by decide
    have fl := ftext_len ok h6
    have hi : i < 4 := (List.getElem?_eq_some_iff.mp eh).1
    have lh : hd.length ≤ 8 := (by decide : ∀ y ∈ headsL, y.length ≤ 8) _ (List.mem_of_getElem? eh)
    refine ⟨_, rfl, Bd, _, rfl, .inr (sB H), _, _, rfl, rfl, ?_⟩
    rw [l4]
    have at1 : atI ((headsL.map S).map V.str) (i : Int) = some (.str (S hd)) := atI_nat (by rw [List.getElem?_map, List.getElem?_map, eh]; rfl)
    refine ⟨false, congrArg V.bl (decide_eq_false (show ¬ (4 : Int) ≤ (i : Nat) by omega)), iteF ⟨_, rfl, ⟨_, rfl⟩, _, rfl, Bd, _, _, _, rfl, rfl, sB H, at1, _, _, rfl, rfl, ?_⟩⟩
    rw [starts_S, decide_eq_true (List.take_left ..)]
    refine ⟨true, rfl, iteF ?_⟩
    refine ⟨_, rfl, _, rfl, Bd, _, _, _, rfl, rfl, sB H, at1, S hd, rfl, by rw [S_len, sizeLine_eq]; omega, _, rfl, ?_⟩
    refine ⟨S (hd ++ ftext sts), rfl, ?_, ?_⟩
    · rw [S_len, sizeLine_eq, List.length_append]; omega
    rw [slice_from (by omega)]
    rw [S_len]
    refine ⟨sts, ?_, ok, h6, fun o r H' k f => q o r H' k f⟩
    rw [show ((hd.length : Nat) : Int).toNat = hd.length by omega, List.drop_left]
    rfl
def dofs : List (List Stp) → Prop := fun rws => ∀ sts ∈ rws, (∀ st ∈ sts, st.ok) ∧ sts.length ≤ 6
def spReadDT (K : PySem.W.Frag) (C CD : Addr) : Sp := fun vs H Q _ => ∃ (s1 s2 s3 s4 : List Stp), vs = [.str (S (dtext [s1, s2, s3, s4]))] ∧ dofs [s1, s2, s3, s4] ∧ ∀ d g H', Ext H H' → DAt K C CD H' d g → g.s1 = s1 → g.s2 = s2 → g.s3 = s3 → g.s4 = s4 → Q (.ref d) H'
theorem head_facts : ∀ x ∈ headsL, ∀ c ∈ x, c ≠ 10 := by decide
theorem read_lines {s1 s2 s3 s4 : List Stp} (ok : dofs [s1, s2, s3, s4]) : TL.spl [10] 0 [] (dtext [s1, s2, s3, s4]) = dlines [s1, s2, s3, s4] := by
  show TL.spl [10] 0 [] (TL.joinL [10] (_ :: _)) = _ :: _
  refine spl_join (fun acc y => spl_sep1) _ _ fun x hx c hc => ?_
  have hx : x ∈ dlines [s1, s2, s3, s4] := hx
  obtain ⟨i, hi⟩ := List.getElem?_of_mem hx
  have hi4 : i < 4 := by
    have := (List.getElem?_eq_some_iff.mp hi).1
    exact Nat.lt_of_lt_of_le this (lines_few _)
  have e1 : headsL[i]? = some headsL[i] := List.getElem?_eq_getElem (show i < 4 from hi4)
  have e2 : [s1, s2, s3, s4][i]? = some [s1, s2, s3, s4][i] := List.getElem?_eq_getElem (show i < 4 from hi4)
  have e3 := line_get e1 e2
  rw [hi] at e3
  injection e3 with e3
  rw [e3] at hc
  rcases List.mem_append.mp hc with h | h
  · exact head_facts _ (List.getElem_mem _) c h
  · exact ftext_facts (ok _ (List.getElem_mem _)).1 c h
theorem dtext_len4 {s1 s2 s3 s4 : List Stp} (ok : dofs [s1, s2, s3, s4]) : (dtext [s1, s2, s3, s4]).length ≤ 2000 := by
  have h1 := joinL_len [10] (dlines [s1, s2, s3, s4])
  have h2 := sum_le (m := 308) (lines_len ok)
  have h3 := lines_few [s1, s2, s3, s4]
  show (TL.joinL [10] (dlines [s1, s2, s3, s4])).length ≤ 2000
  have : [10].length = 1 := rfl
  rw [this] at h1
  have : (dlines [s1, s2, s3, s4]).length * 308 ≤ 4 * 308 := Nat.mul_le_mul_right _ h3
  omega
theorem splS10 (x : List Nat) : Txt.split (S x) "\n" = (TL.spl [10] 0 [] x).map S := by
  rw [nl_S]
  exact split_S (by decide) (by decide)
theorem Fds.kp {K : PySem.W.Frag} {C : Addr} {H H' : Hp} {j : Addr} {xs : List V} (k : Kp j H H') (hj : H j = some (.lst xs)) : ∀ {os rs : List Addr} {rws : List (List Stp)}, Fds K C H os rs rws → Fds K C H' os rs rws
  | _, _, _, .nil => .nil
  | _, _, _, .cons f t => .cons (f.kp k hj) (t.kp k hj)
theorem Fds.snoc {K : PySem.W.Frag} {C : Addr} {H : Hp} {o r : Addr} {sts : List Stp} (f : FoldAt K C H o r sts) : ∀ {os rs : List Addr} {rws : List (List Stp)}, Fds K C H os rs rws → Fds K C H (os ++ [o]) (rs ++ [r]) (rws ++ [sts])
  | _, _, _, .nil => .cons f .nil
  | _, _, _, .cons g t => .cons g (t.snoc f)
theorem ok_readDT {f Cf CD : Addr} {fd : FuncData} (F : Fun K "read_doors" "read_doors" sReadDoors f fd) (T : Nms mg) (C : CstD K mg) (Y : Drs P w K mg base CD) (R : Cl P w K mg base 7 "_folding_of" (spFOfT K Cf)) : FnOk P w K mg base CX0 8 f fd ["text"] (spReadDT K Cf CD) := by
  refine F.ok scReadDoors (fun vs H Q E h => ?_) (fun cdv A outer s H vs Q E hr h => ?_)
  · obtain ⟨s1, s2, s3, s4, rfl, _⟩ := h
    rfl
  · obtain ⟨s1, s2, s3, s4, rfl, ok, q⟩ := h
    have nd := scReadDoors.nd
    obtain ⟨fm, fdm, Mm, FM, bM⟩ := Y.made
    obtain ⟨Bd, hB, sB⟩ := C.heads
    refine ⟨_, pss_cons (ps_if (pt_not (pt_val (pe_callB call_isi (by rfl) T.isi (by decide +kernel) (pa_cons (pv 0) (pa_cons (pe_bltn (v := .ty "str") (by rfl) T.str (by decide +kernel) rfl) pa_nil))))) pss_never pss_nil)
      (pss_cons (ps_setLc (i := 1) (own := [("at", 6), ("line", 7)]) (tt := tYes) rfl nd rfl rfl (sw_true rfl rfl rfl (by decide +kernel)) (pi_enum (by rfl) T.enum (pa_cons (pe_split (pv 0) pe_str) pa_nil))
          (blkOk_by (N := ["text", "foldings", "put", "find", "strike", "wish", "at", "line"]) (sc := defScope sReadDoors) (by decide +kernel)) (g := gTup K 2 (gCons (gName 6) (gCons (gName 7) gNil))) (fun _ _ _ _ _ => pg_tup (n := 2) rfl (pgs_cons (pg_name (i := 6) nd rfl (Or.inl rfl)) (pgs_cons (pg_name (i := 7) nd rfl (Or.inl rfl)) pgs_nil))) (fun _ _ _ _ _ => pts_nil)
          (fun _ _ _ _ _ => pe_cl R hr (by decide) rfl (pa_cons (pv 6) (pa_cons (pv 7) pa_nil))))
      (pss_cons (ps_if (pt_cmpR op_lt (pe_callB call_len_seq (by rfl) T.len PySem.boot_len (pa_cons (pv 1) pa_nil)) (pe_callB call_len_seq (by rfl) T.len PySem.boot_len (pa_cons (pe_glob (v := .ref Bd) rfl hB rfl) pa_nil)) (nomark _)) pss_never pss_nil)
      (pss_cons (ps_asg (pv 1) (pg_lst rfl (pgs_cons (pg_name (i := 2) nd rfl (Or.inl rfl)) (pgs_cons (pg_name (i := 3) nd rfl (Or.inl rfl)) (pgs_cons (pg_name (i := 4) nd rfl (Or.inl rfl)) (pgs_cons (pg_name (i := 5) nd rfl (Or.inl rfl)) pgs_nil))))))
      (pss_one (ps_ret (pe_make Mm FM (hr.mono (by decide)) rfl Y.z.mgC bM .nil pass0 (pa_cons (pv 2) (pa_cons (pv 3) (pa_cons (pv 4) (pa_cons (pv 5) pa_nil)))))))))), ?_⟩
    refine ⟨_, rfl, _, _, _, _, true, rfl, .ty "str", .base (.str _), kit_ty (by decide +kernel), true, rfl, iteF ?_⟩
    have dl := dtext_len4 ok
    refine ⟨_, rfl, ⟨_, rfl⟩, _, _, rfl, rfl, by decide +kernel, by rw [S_len, sizeLine_eq]; omega, fun pl hpl => ⟨pl, _, rfl, SqL.of upd_same, fun D hD => ?_⟩⟩
    rw [splS10, read_lines ok] at hD ⊢
    obtain ⟨rws, er⟩ : ∃ rws, rws = [s1, s2, s3, s4] := ⟨_, rfl⟩
    have lr : rws.length = 4 := by rw [er]; rfl
    rw [← er] at ok hD ⊢
    obtain ⟨H1, z1⟩ : ∃ H', H' = L2.upd H pl (.lst (((dlines rws).map S).map V.str)) := ⟨_, rfl⟩
    rw [← z1] at hD ⊢
    have k1 : Ext H H1 := by rw [z1]; exact Ext.refl.new hpl
    have x1 : H1 pl = some (.lst (((dlines rws).map S).map V.str)) := by rw [z1]; exact upd_same
    have ll : (dlines rws).length = 4 := by rw [er]; rfl
    refine lc_it (walk_enum (xs := ((dlines rws).map S).map V.str)) (fun i H' => ∃ os rs, H' D = some (.lst (os.map V.ref)) ∧ Fds K Cf H' os rs (rws.take i) ∧ os.length ≤ i ∧ Ext H1 H') ⟨[], [], upd_same, .nil, Nat.zero_le _, Ext.refl.new hD⟩ (fun i H' _ p => by
      obtain ⟨os, _, _, _, _, k⟩ := p
      exact SqL.of (k _ _ x1)) ?_ ?_
    · rintro i y H2 H3 hi ⟨os, rs, hD2, fo, lo, k2⟩ ⟨Ta, w1, y1, rfl, hT, rfl, e1, e2⟩
      obtain rfl := Option.some.inj e1
      have hi4 : i < 4 := by rw [List.length_map, List.length_map, ll] at hi; exact hi
      have eh : headsL[i]? = some headsL[i] := List.getElem?_eq_getElem (show i < 4 from hi4)
      have es : rws[i]? = some (rws[i]'(by rw [lr]; exact hi4)) := List.getElem?_eq_getElem _
      have e3 := line_get eh es
      replace e2 : (((dlines rws).map S).map V.str)[i]? = some y1 := e2
      rw [List.getElem?_map, List.getElem?_map, e3] at e2
      obtain rfl := Option.some.inj e2
      generalize (rws[i]'(by rw [lr]; exact hi4)) = sts at *
      obtain ⟨ok1, ok2⟩ := ok sts (List.mem_of_getElem? es)
      have k3 : Ext H2 (L2.upd H2 Ta (.tup [V.int (i : Nat), .str (S (headsL[i] ++ ftext sts))])) := Ext.refl.new hT
      refine ⟨Ta, _, rfl, SqT.of upd_same, rfl, _, _, rfl, _, _, rfl, rfl, rfl, ?_⟩
      refine ⟨_, rfl, _, rfl, i, headsL[i], sts, rfl, eh, ok1, ok2, fun o r' H4 k4 f4 => ?_⟩
      have hD4 : H4 D = some (.lst (os.map V.ref)) := (k3.trans k4) _ _ hD2
      have kk : Kp D H4 (L2.upd H4 D (.lst (os.map V.ref ++ [.ref o]))) := .upd
      refine ⟨_, hD4, by rw [List.length_map, sizeLine_eq]; omega, os ++ [o], rs ++ [r'], ?_, ?_, by rw [List.length_append]; show _ + 1 ≤ _; omega, ?_⟩
      · rw [upd_same, List.map_append]; rfl
      · rw [List.take_add_one, es]
        exact ((fo.ext (k3.trans k4)).kp kk hD4).snoc (f4.kp kk hD4)
      · exact ((k2.trans k3).trans k4).new hD
    · rintro H2 ⟨os, rs, hD2, fo, lo, k2⟩
      rw [List.length_map, List.length_map, ll, List.take_of_length_le (by omega), er] at fo
      cases fo with
      | @cons o1 r1 _ _ _ _ f1 fo =>
      cases fo with
      | @cons o2 r2 _ _ _ _ f2 fo =>
      cases fo with
      | @cons o3 r3 _ _ _ _ f3 fo =>
      cases fo with
      | @cons o4 r4 _ _ _ _ f4 fo =>
      cases fo
      have lB : (((headsL.map S).map V.str).length : Int) = 4 := by decide
      refine ⟨_, rfl, D, _, rfl, .inl (SqL.of hD2), Bd, _, rfl, .inr (sB H2), _, _, rfl, rfl, ?_⟩
      refine ⟨false, congrArg V.bl (decide_eq_false (by rw [lB]; exact Int.lt_irrefl 4)), iteF ?_⟩
      refine ⟨_, rfl, D, _, rfl, SqL.of hD2, rfl, _, _, rfl, _, _, rfl, _, _, rfl, _, _, rfl, rfl, ?_⟩
      exact ⟨_, rfl, _, rfl, _, rfl, _, rfl, fun y dy hy hdy ney => dmade_ask f1 f2 f3 f4 hy hdy ney fun H4 d4 k4 => ⟨rfl, q y ⟨_, _, _, _, _, _, _, _, _, _, _, _⟩ H4 ((k1.trans k2).trans k4) d4 rfl rfl rfl rfl⟩⟩
end
end Pd

set_option maxHeartbeats 4000000
namespace Pd
open PySem PySem.Spec PyProof.Rows L2 SX
def txV (ts : List (List Nat)) : List V := ts.map fun t => V.str (S t)
/-! ### drawn texts -/
theorem upCH : ∀ c ∈ CH, c < 128 ∧ up1 c ∈ CH := by decide
theorem upper_good {l : List Nat} (h : Good l) : Txt.upper (S l) = S (l.map up1) ∧ Good (l.map up1) := by
  refine ⟨upper_S (by rw [List.all_eq_true]; exact fun c hc => decide_eq_true (upCH c (h.1 c hc)).1), fun c hc => ?_, by rw [List.length_map]; exact h.2⟩
  obtain ⟨d, hd, rfl⟩ := List.mem_map.mp hc
  exact (upCH d (h.1 d hd)).2
theorem txs_dp {K : PySem.W.Frag} {H : Hp} : ∀ {ts : List (List Nat)}, DpAll K H (txV ts) (ts.map fun t => PyData.str (S t))
  | [] => .nil
  | t :: ts => .cons (.str _) txs_dp
theorem txs_shape {ts : List (List Nat)} (h : ∀ t ∈ ts, Good t) : SeqAt.shaped (.list (ts.map fun t => PyData.str (S t))) = true := by
  have key : PyData.canLayAll0 (ts.map fun t => PyData.str (S t)) = true ∧ PyData.depthAll (ts.map fun t => PyData.str (S t)) ≤ 0 := by
    induction ts with
    | nil => exact ⟨rfl, Nat.zero_le _⟩
    | cons t ts ih =>
      obtain ⟨h1, h2⟩ := ih fun s hs => h s (List.mem_cons_of_mem _ hs)
      have z := strOk_CH (h t (List.mem_cons_self ..)).1
      refine ⟨?_, ?_⟩
      · rw [List.map_cons]; simp only [PyData.canLayAll0, PyData.canLay0, h1, z, Bool.and_self]
      · rw [List.map_cons]; simp only [PyData.depthAll, PyData.depth]; omega
  unfold SeqAt.shaped
  simp only [PyData.canLay0, PyData.depth, key.1, Bool.true_and]
  exact decide_eq_true (by have := key.2; omega)
theorem eqv_nil {ds : List PyData} : PyData.eqv (.list ds) (.list []) = ds.isEmpty := by
  cases ds <;> simp [PyData.eqv, PyData.eqvAll]
def spTxt : Sp := fun vs H Q _ => ∃ (j u : Addr) (n : Nat) (l : List Nat) (ts : List (List Nat)), vs = [.ref j, .str (S l), .ref u] ∧ JarAt H j n ∧ PoolOk l ∧ H u = some (.lst (txV ts)) ∧ (∀ t ∈ ts, Good t) ∧ ts.length ≤ 1000 ∧ u ≠ j ∧ n + 400 < 1000000 ∧
  ∀ x H', Good x → JarAt H' j (n + 400) → Kp j H H' → Q (.str (S x)) H'
def spLUsed : Sp := fun vs H Q _ => ∃ (u : Addr) (l : List Nat) (ts : List (List Nat)), vs = [.ref u, .str (S l)] ∧ H u = some (.lst (txV ts)) ∧ ∀ ts' H', (ts' = ts ∨ (ts.length < 30 ∧ ts' = ts ++ [l])) → H' = upd H u (.lst (txV ts')) → Q (.str (S l)) H'
theorem txs_get {ts : List (List Nat)} {i : Int} (h0 : 0 ≤ i) (h1 : i < (ts.length : Nat)) : ∃ t ∈ ts, atI (txV ts) i = some (.str (S t)) := by
  have hi : i.toNat < ts.length := by omega
  refine ⟨ts[i.toNat], List.getElem_mem hi, ?_⟩
  have z := atI_nat (xs := txV ts) (j := i.toNat) (v := .str (S ts[i.toNat])) (by unfold txV; rw [List.getElem?_map, List.getElem?_eq_getElem hi]; rfl)
  rw [show ((i.toNat : Nat) : Int) = i by omega] at z
  exact z
section
variable {P : Program} {w : World} {K : PySem.W.Frag} {mg : Str → Option Value} {base : Heap}
theorem ok_ltext {f : Addr} {fd : FuncData} (F : Fun K "_law_text" "_law_text" sLawText f fd) (T : Nms mg) (D : Cl P w K mg base 1 "_law_draw" spDraw) (G : ClT P w K mg base 2 "_law_character" spCharacter) : FnOk P w K mg base CX0 3 f fd ["well", "pool", "used"] spTxt := by
  refine F.ok scLawText (fun vs H Q E h => ?_) (fun cdv A outer s H vs Q E hr h => ?_)
  · obtain ⟨j, u, n, l, ts, rfl, _⟩ := h
    rfl
  · obtain ⟨j, u, n, l, ts, rfl, hJ, hP, hu, hg, hz, nuj, hn, q⟩ := h
    have nd := scLawText.nd
    refine ⟨_, C8.pss_cut (ps_set (i := 3) nd rfl (Or.inl rfl) (pe_ifExp (pt_cmpR op_lt (pe_callB call_len_seq (by rfl) T.len PySem.boot_len (pa_cons (pv 2) pa_nil)) pe_int (nomark _)) (pe_cl D hr (by decide) rfl (pa_cons (pv 0) (pa_cons pe_int pa_nil))) pe_int))
      (C8.pss_cut (ps_if (PW.pt (pw_and (pt_cmpR (op_neD hr.units) (pv 2) (pe_lst pa_nil) (nomark _)) (pw_and1 (pt_cmpR op_lt (pv 3) pe_int (nomark _)))))
        (pss_cons (ps_par (i := 4) (j := 5) rfl nd rfl rfl (by decide) rfl rfl (pa_cons (pe_ix ix_list (pv 2) (pe_cl D hr (by decide) rfl (pa_cons (pv 0) (pa_cons (pe_callB call_len_seq (by rfl) T.len PySem.boot_len (pa_cons (pv 2) pa_nil)) pa_nil))) (fun _ _ => rfl)) (pa_cons (pe_cl D hr (by decide) rfl (pa_cons (pv 0) (pa_cons pe_int pa_nil))) pa_nil)) (by rfl))
        (pss_cons (ps_if (pt_cmpR op_eq (pv 3) pe_int (nomark _)) (pss_one (ps_ret (pe_upper (pv 4)))) pss_nil)
        (pss_cons (ps_if (PW.pt (pw_and (pt_cmpR op_eq (pv 3) pe_int (nomark _)) (pw_and1 (pt_cmpR op_lt (pe_callB call_len_str (by rfl) T.len PySem.boot_len (pa_cons (pv 4) pa_nil)) pe_int (nomark _)))))
          (pss_one (ps_ret (pe_op op_add_str (pe_op op_add_str (pe_slice C8.sl_txt (pv 4) po_none (po_some (pv 5))) (PEF.pe (pef_cl G hr (by decide) rfl (pa_cons (pv 0) (pa_cons (pv 1) pa_nil))))) (pe_slice C8.sl_txt (pv 4) (po_some (pv 5)) po_none)))) pss_nil)
        (pss_one (ps_ret (pv 4)))))) pss_nil)
      (C8.pss_cut (ps_set (i := 6) nd rfl (Or.inl rfl) (pe_ifExp (pt_cmpR op_eq (pv 3) pe_int (nomark _)) pe_int (pe_cl D hr (by decide) rfl (pa_cons (pv 0) (pa_cons pe_int pa_nil)))))
      (pss_cons (ps_set (i := 4) nd rfl (Or.inl rfl) pe_str)
      (pss_cons (ps_for PassesOwn.never rfl (pi_range1 rfl T.range (pa_cons (pv 6) pa_nil)) (pg_name (i := 7) nd rfl (Or.inl rfl))
        (pss_one (ps_if (pt_cmpR op_lt (pe_callB call_len_str (by rfl) T.len PySem.boot_len (pa_cons (pv 4) pa_nil)) (pv 6) (nomark _))
          (pss_one (ps_set (i := 4) nd rfl (Or.inl rfl) (pe_op op_add_str (pv 4) (pe_op op_mulS (PEF.pe (pef_cl G hr (by decide) rfl (pa_cons (pv 0) (pa_cons (pv 1) pa_nil)))) (pe_op op_add pe_int (pe_cl D hr (by decide) rfl (pa_cons (pv 0) (pa_cons pe_int pa_nil)))))))) pss_nil)))
      (pss_one (ps_ret (pe_slice C8.sl_txt (pv 4) po_none (po_some (pv 6))))))))), ?_⟩
    obtain ⟨hPl, hPc⟩ := id hP
    have eu : (txV ts).length = ts.length := List.length_map _
    refine ⟨fun σ' H' => ∃ way, σ' = [some (.ref j), some (.str (S l)), some (.ref u), some (.int way), none, none, none, none] ∧ 0 ≤ way ∧ way < 6 ∧ JarAt H' j (n + 1) ∧ Kp j H H', ?_, ?_⟩
    · refine ⟨_, rfl, u, _, rfl, .inl (SqL.of hu), _, _, rfl, rfl, _, rfl, ite2 (fun _ => ?_) (fun _ => ?_)⟩
      · exact ⟨_, rfl, j, 6, n, rfl, hJ, by omega, by decide, by decide, fun r H1 h0 h1 J1 k1 => ⟨r, rfl, h0, h1, J1, k1⟩⟩
      · exact ⟨0, rfl, by decide, by decide, hJ.le (by omega), fun _ _ _ h => h⟩
    rintro σ1 H1 ⟨way, rfl, hw0, hw6, J1, k1⟩
    have hu1 := k1 _ _ nuj hu
    obtain ⟨ys1, hy1⟩ := J1.lst
    have big : ∀ {x : List Nat} {H' : Hp}, Good x → JarAt H' j (n + 400) → Kp j H H' → Q (.str (S x)) H' := fun {x H'} a b c => q x H' a b c
    refine ⟨fun σ' H' => σ' = [some (.ref j), some (.str (S l)), some (.ref u), some (.int way), none, none, none, none] ∧ JarAt H' j (n + 1) ∧ Kp j H H', ?_, ?_⟩
    rotate_left
    · rintro σ2 H2 ⟨rfl, J2, k2⟩
      refine ⟨fun σ' H' => ∃ size, σ' = [some (.ref j), some (.str (S l)), some (.ref u), some (.int way), none, none, some (.int size), none] ∧ 0 ≤ size ∧ size ≤ 60 ∧ JarAt H' j (n + 2) ∧ Kp j H H', ?_, ?_⟩
      · refine ⟨_, rfl, rfl, _, rfl, ite2 (fun _ => ?_) (fun _ => ?_)⟩
        · exact ⟨60, rfl, by decide, by decide, J2.le (by omega), k2⟩
        · exact ⟨_, rfl, j, 9, _, rfl, J2, by omega, by decide, by decide, fun r H3 h0 h1 J3 k3 => ⟨r, rfl, h0, by omega, J3, k2.trans k3⟩⟩
      rintro σ3 H3 ⟨size, rfl, hs0, hs6, J3, k3⟩
      refine ⟨_, rfl, size, rfl, by omega, by omega, ?_⟩
      refine for_range (lo := 0) (n := size.toNat) (fun i σ H' => ∃ (m : List Nat) (u7 : Option V), σ = [some (.ref j), some (.str (S l)), some (.ref u), some (.int way), some (.str (S m)), none, some (.int size), u7] ∧ (∀ c ∈ m, c ∈ CH) ∧ m.length ≤ 70 ∧ JarAt H' j (n + 2 + 4 * i) ∧ Kp j H H')
        ⟨[], none, rfl, (fun _ h => nomatch h), by decide, J3, k3⟩ ?_ ?_
      · rintro i σ H4 hi ⟨m, u7, rfl, hm, hml, J4, k4⟩
        refine ⟨_, rfl, _, rfl, by rw [S_len, sizeLine_eq]; omega, _, rfl, _, _, rfl, rfl, _, rfl, ite2 (fun h => ?_) (fun _ => ⟨m, _, rfl, hm, hml, J4.le (by omega), k4⟩)⟩
        have h : ((S m).length : Int) < size := of_decide_eq_true h
        rw [S_len] at h
        refine ⟨_, rfl, _, rfl, _, rfl, j, _, l, rfl, J4, hP, by omega, fun c H5 hc J5 k5 => ?_⟩
        refine ⟨_, rfl, j, 3, _, rfl, J5, by omega, by decide, by decide, fun r H6 h0 h1 J6 k6 => ⟨_, _, rfl, rfl, sg c, 1 + r, rfl, rfl, mulOk_S (l := [c]) (by omega) (by omega) (by show 1 ≤ 1000; decide), ?_⟩⟩
        obtain ⟨m2, e2, l2, h2⟩ := mul_S [c] (n := 1 + r) (by omega)
        rw [sg_S, e2]
        have l2 : m2.length ≤ 3 := by
          have : (1 + r).toNat ≤ 3 := by omega
          have e1 : ([c] : List Nat).length = 1 := rfl
          rw [e1, Nat.mul_one] at l2
          omega
        refine ⟨_, _, rfl, rfl, by rw [S_len, S_len, sizeLine_eq]; omega, ?_⟩
        rw [S_cat]
        refine ⟨m ++ m2, _, rfl, fun d hd => ?_, by rw [List.length_append]; omega, J6.le (by omega), (k4.trans k5).trans k6⟩
        rcases List.mem_append.mp hd with h | h
        · exact hm d h
        · have := h2 d h
          rw [List.mem_singleton.mp this]; exact hc
      · rintro σ H4 ⟨m, u7, rfl, hm, hml, J4, k4⟩
        refine ⟨_, rfl, _, rfl, size, rfl, S m, rfl, by rw [S_len, sizeLine_eq]; omega, ?_⟩
        rw [slice_to hs0]
        exact q _ H4 ⟨fun c hc => hm c (List.mem_of_mem_take hc), by rw [List.length_take]; omega⟩ (J4.le (by omega)) k4
    refine ⟨_, rfl, by show 0 ≤ sizeLine; decide, fun le hle => ?_⟩
    have nu : u ≠ le := ne_of_none hu1 hle
    obtain ⟨H2, z2⟩ : ∃ H', H' = upd H1 le (.lst []) := ⟨_, rfl⟩
    rw [← z2]
    have k2e : Ext H1 H2 := by rw [z2]; exact Ext.refl.new hle
    have J2 := J1.ext k2e
    have k2 := k1.trans k2e.kp
    have hu2 := k2e _ _ hu1
    refine ⟨.list (ts.map fun t => PyData.str (S t)), .list [], .lst (SqL.of hu2) txs_dp, .lst (SqL.of (xs := []) (by rw [z2, upd_same])) .nil, txs_shape hg, txs_shape (ts := []) (fun _ h => nomatch h), ?_⟩
    rw [eqv_nil]
    refine ⟨_, rfl, ?_⟩
    cases ts with
    | nil => exact iteF ⟨rfl, J2, k2⟩
    | cons t0 ts0 =>
      refine iteT ⟨_, rfl, _, _, rfl, rfl, _, rfl, ite2 (fun _ => ?_) (fun _ => ⟨rfl, J2, k2⟩)⟩
      refine ⟨_, rfl, _, rfl, _, rfl, u, _, rfl, .inl (SqL.of hu2), j, _, _, rfl, J2, by omega, ?_, ?_, fun r H3 h0 h1 J3 k3 => ?_⟩
      · rw [eu]; show (1 : Int) ≤ ((ts0.length + 1 : Nat) : Int); omega
      · rw [eu]; omega
      rw [eu] at h1
      have hu3 := k3 _ _ nuj hu2
      obtain ⟨t, ht, et⟩ := txs_get h0 h1
      have gt := hg t ht
      refine ⟨u, _, r, _, rfl, rfl, SqL.of hu3, et, ?_⟩
      have k03 := k2.trans k3
      refine ⟨_, rfl, j, 61, _, rfl, J3, by omega, by decide, by decide, fun sp H4 p0 p1 J4 k4 => ⟨_, _, rfl, ?_⟩⟩
      have k04 := k03.trans k4
      refine ⟨_, rfl, rfl, _, rfl, ite2 (fun _ => ?_) (fun _ => ?_)⟩
      · refine ⟨_, rfl, ⟨_, rfl⟩, _, rfl, rfl, by rw [S_len]; have := gt.2; omega, ?_⟩
        obtain ⟨e1, g1⟩ := upper_good gt
        rw [e1]
        exact q _ H4 g1 (J4.le (by omega)) k04
      · refine ⟨_, rfl, rfl, _, rfl, ite2 (fun _ => ?_) (fun _ => ?_)⟩
        · refine ⟨_, rfl, _, rfl, by rw [S_len, sizeLine_eq]; have := gt.2; omega, _, _, rfl, rfl, _, rfl, ite2 (fun h => ?_) (fun _ => ?_)⟩
          · have h : ((S t).length : Int) < 60 := of_decide_eq_true h
            rw [S_len] at h
            refine ⟨_, rfl, _, rfl, sp, rfl, S t, rfl, by rw [S_len, sizeLine_eq]; omega, ?_⟩
            refine ⟨_, rfl, _, rfl, j, _, l, rfl, J4, hP, by omega, fun c H5 hc J5 k5 => ?_⟩
            refine ⟨_, _, rfl, rfl, ?_, ?_⟩
            · rw [slice_to p0, S_len]; show _ + 1 ≤ _; rw [List.length_take, sizeLine_eq]; omega
            refine ⟨_, rfl, _, rfl, sp, rfl, S t, rfl, by rw [S_len, sizeLine_eq]; omega, ?_⟩
            rw [slice_to p0, slice_from p0, sg_S, S_cat]
            refine ⟨_, _, rfl, rfl, by rw [S_len, S_len, sizeLine_eq]; simp; omega, ?_⟩
            rw [S_cat]
            refine q _ H5 ⟨fun d hd => ?_, ?_⟩ (J5.le (by omega)) (k04.trans k5)
            · rcases List.mem_append.mp hd with h | h
              · rcases List.mem_append.mp h with h | h
                · exact gt.1 d (List.mem_of_mem_take h)
                · rw [List.mem_singleton.mp h]; exact hc
              · exact gt.1 d (List.mem_of_mem_drop h)
            · rw [List.length_append, List.length_append, List.length_take, List.length_drop]
              show _ + 1 + _ ≤ 60
              omega
          · exact ⟨_, rfl, q _ H4 gt (J4.le (by omega)) k04⟩
        · exact ⟨_, rfl, q _ H4 gt (J4.le (by omega)) k04⟩
end
end Pd

set_option maxHeartbeats 1000000
namespace Pd
open PySem PySem.Spec PyProof.Rows L2 RT
section
variable {prog : Program} {w : World} {A : Around} {E : Value → Shared → Prop} {s : Shared} {R : Result → Shared → Prop}
theorem extend_rev {it l S : Addr} {items : Array Value} (res : Value) (c₀ : Nat) (hh : A.handled = none) (hit : s.heap.IsRevIter it l ((items.size : Int) - 1)) (hl : s.heap.IsList l items) (hne : l ≠ it) (hSi : S ≠ it) (hSl : S ≠ l) (hn : items.size ≤ sizeLine)
    (hS : s.heap.get? S = some { cls := .type "list", data := .seq #[] c₀ })
    (hR : ∀ (h' : Heap) (tk : Nat) (acc' : Array Value) (c' : Nat), (∀ b o, b ≠ it → b ≠ S → s.heap.get? b = some o → h'.get? b = some o) → h'.get? S = some { cls := .type "list", dict := none, data := .seq acc' c', slots := #[] } →
      ItemsOf (fun i v => items[items.size - 1 - i]? = some v) acc' items.size → R (.ok (.ret res)) { s with heap := h', toks := tk }) :
    wpAny (model prog w) A.in1 (Builtin.List.listExtendWith (.ref S) (.ref it) res)
      (fun fin s' => match fin with | .done f => R (.ok f) s' | .again c' => c'.quiet = true ∧ codeAny (model prog w) A c' R s') (fun e s' => R (.error e) s') s := by
  have hh1 : A.in1.handled = none := hh
  have W := (Walks.listRev (prog := prog) (w := w) (A := A.in1) hh1 it l hne items).toS
  have hSf : S ∉ [it, l] := by simp only [List.mem_cons, List.not_mem_nil, or_false, not_or]; exact ⟨hSi, hSl⟩
  have hT : s.TypeIs (.ref it) "list_reverseiterator" := hit.typeIs
  have h1 : Builtin.List.listSameRef (.ref S) (.ref it) = false := by simp [Builtin.List.listSameRef, hSi]
  unfold Builtin.List.listExtendWith
  refine wpAny_bind (wpAny_typeOf hT ?_)
  rw [if_neg (by rw [h1]; decide)]
  refine wpAny_bind (wpAny_pyIter_revIter hit ?_)
  refine wpAny_bind (wpAny_holding ?_)
  unfold Builtin.List.listLengthHint
  refine wpAny_bind (wpAny_specialOf hT nolen_lri ?_)
  show wpAny _ A.in1 (specialOf (Value.ref it) (Str.ofString "__length_hint__") >>= _) _ _ _
  refine wpAny_bind (wpAny_specialOf hT hint_lri ?_)
  generalize hid : ("list_reverseiterator.__length_hint__" : String) = id0
  wp_delta
  rw [show splitId id0 = some ("list_reverseiterator", "__length_hint__") from by subst hid; decide +kernel]
  subst hid
  refine wpAny_bind (wpAny_isInstance (b := true) hT (by rw [isSubtype_type]; kernel_rfl) ?_)
  refine wpAny_pure ?_
  rw [if_neg (by decide)]
  have e0 : ((items.size : Nat) : Int) - 1 - ((0 : Nat) : Int) = (items.size : Int) - 1 := by omega
  refine wpAny_pure ⟨plainId_quiet F.plain_extend_loop _, codeAny_extend_loopS W hn _ hSf _ items.size 0 _ _ _ rfl (Nat.zero_le _) ⟨Nat.zero_le _, by rw [e0]; exact hit, hl⟩ hS (ItemsOf.nil _) fun s' acc' c' hm hS' hacc => ?_⟩
  rw [Moved.eq_with hm]
  exact hR s'.heap s'.toks acc' c' (fun b o hb hbS e => hm.heap b o (fun hmem => (List.mem_cons.mp hmem).elim hbS fun hmem => hb (List.mem_singleton.mp hmem)) e) hS' hacc
theorem list_init_rev {it l S : Addr} {items : Array Value} (hh : A.handled = none) (hit : s.heap.IsRevIter it l ((items.size : Int) - 1)) (hl : s.heap.IsList l items) (hne : l ≠ it) (hSi : S ≠ it) (hSl : S ≠ l) (hn : items.size ≤ sizeLine)
    (hS : s.heap.get? S = some { cls := .type "list", data := .seq #[] })
    (hR : ∀ (h' : Heap) (tk : Nat) (acc' : Array Value) (c' : Nat), (∀ b o, b ≠ it → b ≠ S → s.heap.get? b = some o → h'.get? b = some o) → h'.get? S = some { cls := .type "list", dict := none, data := .seq acc' c', slots := #[] } →
      ItemsOf (fun i v => items[items.size - 1 - i]? = some v) acc' items.size → R (.ok (.ret .none)) { s with heap := h', toks := tk }) :
    wpAny (model prog w) A.in1 (Builtin.«list.__init__» ⟨[.ref S, .ref it], []⟩)
      (fun fin s' => match fin with | .done f => R (.ok f) s' | .again c' => c'.quiet = true ∧ codeAny (model prog w) A c' R s') (fun e s' => R (.error e) s') s := by
  show wpAny _ A.in1 (do let old ← Builtin.List.listItems (.ref S); Builtin.List.listUpdate (.ref S) (fun _ => #[]); letGo old.toList.reverse; Builtin.List.listExtendWith (.ref S) (.ref it) .none) _ _ s
  refine wpAny_bind ?_
  unfold Builtin.List.listItems
  refine wpAny_bind (wpAny_seqItems hS rfl (wpAny_pure ?_))
  show wpAny _ A.in1 (updateSeq S (fun _ => #[]) >>= fun _ => letGo (#[] : Array Value).toList.reverse >>= fun _ => Builtin.List.listExtendWith (.ref S) (.ref it) .none) _ _ s
  refine wpAny_bind (wpAny_updateSeq hS rfl ?_)
  have hS₂ := Heap.get?_update_self (Obj.mapSeq (fun _ => (#[] : Array Value))) hS rfl
  have oth : ∀ b o, b ≠ S → s.heap.get? b = some o → (s.heap.update S (Obj.mapSeq (fun _ => (#[] : Array Value)))).get? b = some o :=
    fun b o hb e => (Heap.get?_update_other _ _ (Ne.symm hb)).trans e
  refine wpAny_bind (wpAny_letGo ?_)
  exact extend_rev (s := { s with heap := s.heap.update S (Obj.mapSeq (fun _ => (#[] : Array Value))) }) .none _ hh (hit.at fun o e => oth _ o (Ne.symm hSi) e) (hl.at fun o e => oth _ o (Ne.symm hSl) e) hne hSi hSl hn hS₂
    fun h' tk acc' c' hk hS' hacc => hR h' tk acc' c' (fun b o hb hbS e => hk b o hb hbS (oth b o hbS e)) hS' hacc
theorem call_list_rev {it l : Addr} {items : Array Value} {Q : Value → Shared → Prop} (hh : A.handled = none) (hit : s.heap.IsRevIter it l ((items.size : Int) - 1)) (hl : s.heap.IsList l items) (hne : l ≠ it) (hn : items.size ≤ sizeLine)
    (hQ : ∀ (h' : Heap) (tk : Nat) (acc' : Array Value) (c' : Nat), (∀ b o, b ≠ it → s.heap.get? b = some o → h'.get? b = some o) → h'.get? s.heap.objs.size = some { cls := .type "list", dict := none, data := .seq acc' c', slots := #[] } →
      ItemsOf (fun i v => items[items.size - 1 - i]? = some v) acc' items.size → Q (.ref s.heap.objs.size) { s with heap := h', toks := tk }) :
    wpAny (model prog w) A (call (.type "list") [.ref it]) Q E s := by
  obtain ⟨oi, hoi, _⟩ := id hit
  obtain ⟨ol, hol, _⟩ := id hl
  have hSi : s.heap.objs.size ≠ it := Nat.ne_of_gt (Heap.lt_size hoi)
  have hSl : s.heap.objs.size ≠ l := Nat.ne_of_gt (Heap.lt_size hol)
  refine callType_codes (Q₁ := fun obj s₁ => obj = .ref s.heap.objs.size ∧ s₁ = { s with heap := s.heap.push { cls := .type "list", data := .seq #[] } }) F.called_list (F.typeCall_list_1 _) F.entry_list_init
    (code_list_new _ ⟨rfl, rfl⟩) fun obj s₁ h₁ => ?_
  obtain ⟨rfl, rfl⟩ := h₁
  have hS : (s.heap.push { cls := .type "list", data := .seq #[] }).get? s.heap.objs.size = some { cls := .type "list", data := .seq #[] } := Heap.get?_push_size _ rfl
  refine ⟨⟨_, hS, rfl⟩, F.args_list_init_2 _ _, list_init_rev (s := { s with heap := s.heap.push { cls := .type "list", data := .seq #[] } }) hh (hit.at fun o e => Heap.get?_push_of_some _ e) (hl.push _) hne hSi hSl hn hS fun h' tk acc' c' hk hS' hacc => ?_⟩
  exact ⟨rfl, hQ h' tk acc' c' (fun b o hb e => hk b o hb (Nat.ne_of_lt (Heap.lt_size e)) (Heap.get?_push_of_some _ e)) hS' hacc⟩
end
/-- list(reversed(x)), x a list: a new list -/
def tListRev (K : PySem.W.Frag) (te : TE) : TE := fun σ H Q => te σ H fun v H1 => ∃ (a : Addr) (xs : List V), v = .ref a ∧ SqL K H1 a xs ∧ ∀ q, H1 q = none → Q (.ref q) (upd H1 q (.lst xs.reverse))
section
variable {X : Cx}
theorem pe_listRev {e : Expr} {te : TE} {p p2 pos pos2 : Pos} (hc : X.calm = true) (hg : Gl X "list") (hm : X.mg "list" = none) (hg2 : Gl X "reversed") (hm2 : X.mg "reversed" = none) (he : PE X e te)
    (hs : starEach [e] X.env = (false, eval e X.env) :: starEach [] X.env := by rfl)
    (hs2 : starEach [.Call (.Name "reversed" p2) [e] [] pos2] X.env = (false, eval (.Call (.Name "reversed" p2) [e] [] pos2) X.env) :: starEach [] X.env := by rfl) :
    PE X (.Call (.Name "list" p) [.Call (.Name "reversed" p2) [e] [] pos2] [] pos) (tListRev X.K te) := by
  refine ⟨fun pins s σ H Q I h => ?_⟩
  refine Call_ (ld_blt I hg hm (show bootBuiltins "list" = some (.type "list") by decide +kernel) (PyProof.Rows.callWith_type1 (args_cons (Call_ (ld_blt I hg2 hm2 PyProof.Rows.boot_reversed (PyProof.Rows.callWith_type1 (args_cons (thn (he.run pins s σ H _ I h) fun u s1 ⟨v, H1, I1, r1, q1⟩ => args_nil ?_) hs) hs rfl))) hs2) hs2 rfl))
  obtain ⟨a, xs, ev, hq, q⟩ := q1
  subst ev
  obtain rfl : u = Value.ref a := r1
  obtain ⟨its, rv, p', hz⟩ := I1.list hq
  refine call_reversed_list p'.isList (args_nil ?_)
  have hl := p'.isList
  obtain ⟨ol, hol, _⟩ := id hl
  have hne : a ≠ s1.heap.objs.size := Nat.ne_of_lt (Heap.lt_size hol)
  have hn : its.toArray.size ≤ sizeLine := by rw [List.size_toArray, ← rv.length]; exact hz
  refine call_list_rev (s := { s1 with heap := s1.heap.push (revObj a ((its.toArray.size : Int) - 1)) }) (I1.ok.hd hc) ⟨_, Heap.get?_push_size _ rfl, rfl, rfl⟩ (hl.push _) hne hn fun h' tk acc c hk hS hi => ?_
  have le : s1.heap.objs.size ≤ (s1.heap.push (revObj a ((its.toArray.size : Int) - 1))).objs.size := by simp [Heap.push]
  have k0 : ∀ b o, s1.heap.get? b = some o → h'.get? b = some o := fun b o e => hk b o (Nat.ne_of_lt (Heap.lt_size e)) (Heap.get?_push_of_some _ e)
  refine ⟨.ref _, upd H1 _ (.lst xs.reverse), I1.laid (t' := tk) k0 le (show ObjOk X.prog X.w _ _ _ (.lst xs.reverse) from ⟨by rw [List.length_reverse]; exact hz, acc.toList, c, vals_rev rv hi, ?_⟩), rfl, q _ (I1.hok.fresh le)⟩
  rw [Array.toArray_toList]
  exact hS
end
section
variable {X : Cx} {n : Nat} {a b : Expr} {ta tb : TE} {pos : Pos}
theorem ptn_cmpR {op : CmpOp} {r : R2} (ho : OpR X (compareOp op) r) (ha : PEn n X a ta) (hb : PEn n X b tb) (hm : behindInMarks op b = false) : PTn n X (.Compare a [op] [b] pos) (tTest (tOp r ta tb)) := by
  constructor
  intro pins s σ H Q l I h
  refine wpAny_isTrue_Compare1 (thk l (ha.run pins s σ H _ l I h) fun v s1 l1 ⟨x, H1, I1, r1, q1⟩ => thn (hb.run pins s1 σ H1 _ l1 I1 q1) fun u s2 ⟨y, H2, I2, r2, q2⟩ => thn (ho pins s2 σ H2 x y v u _ I2 r1 r2 q2) ?_) hm
  rintro c s3 ⟨z, H3, I3, r3, k, rfl, q3⟩
  cases r3
  exact wpAny_truthy_bool ⟨H3, I3, q3⟩
end
end Pd

set_option maxHeartbeats 4000000
namespace Pd
open PySem PySem.Spec PyProof.Rows L2 SX
section
variable {K : PySem.W.Frag} {C CD : Addr} {H : Hp}
theorem rEq_refl {o r : Addr} {s : List Stp} (h : FoldAt K C H o r s) : rEq s s = true := SeqAt.eqv_refl _ (SeqAt.canLay_of_shaped (row_sh h.2.1))
theorem fp_cons {o p r r' : Addr} {s : List Stp} {os ps : List Addr} (h : FoldAt K C H o r s) (h' : FoldAt K C H p r' s) (t : FPairs K C H os ps true) : FPairs K C H (o :: os) (p :: ps) true := by
  by_cases e : o = p
  · subst e
    exact .same h t
  · have z := FPairs.cons e h h' t
    rw [rEq_refl h] at z
    exact z
theorem DAt.eqw {d d' : Addr} {g g' : Dg} (h : DAt K C CD H d g) (h' : DAt K C CD H d' g') (e1 : g.s1 = g'.s1) (e2 : g.s2 = g'.s2) (e3 : g.s3 = g'.s3) (e4 : g.s4 = g'.s4) : EqW K C CD H [g.o1, g.o2, g.o3, g.o4] (.ref d') true :=
  .doors h' (fp_cons (by have := h.f1; rw [e1] at this; exact this) h'.f1 (fp_cons (by have := h.f2; rw [e2] at this; exact this) h'.f2 (fp_cons (by have := h.f3; rw [e3] at this; exact this) h'.f3 (fp_cons (by have := h.f4; rw [e4] at this; exact this) h'.f4 .nil))))
end
/-- what the two __eq__ say -/
structure DrQ2 (P : Program) (w : World) (K : PySem.W.Frag) (mg : Str → Option Value) (base : Heap) (Cf CD : Addr) : Prop where
  ex : ∃ (gF gD : Addr) (fdF fdD : FuncData), EqF K Cf CD gF gD ∧ FnOk P w K mg base CX0 1 gF fdF ["self", "other"] (spFEq K Cf CD) ∧ Binds K fdF ["self", "other"] [] ∧ FnOk P w K mg base CX0 3 gD fdD ["self", "other"] (spDEq K Cf CD) ∧ Binds K fdD ["self", "other"] []
/-- doors == doors -/
def rDoorsEq (K : PySem.W.Frag) (C CD : Addr) (k : Bool) : R2 := fun x y H Q => ∃ d d' g g', x = .ref d ∧ y = .ref d' ∧ DAt K C CD H d g ∧ DAt K C CD H d' g' ∧ g.s1 = g'.s1 ∧ g.s2 = g'.s2 ∧ g.s3 = g'.s3 ∧ g.s4 = g'.s4 ∧ ∀ H', Ext H H' → Q (.bl k) H'
theorem op_eqDoors {X : Cx} {j : Nat} {Cf CD : Addr} (Y : DrQ2 X.prog X.w X.K X.mg X.base Cf CD) (hr : Room j X.A) (hk : 3 ≤ j) : OpR X (compareOp .Eq) (rDoorsEq X.K Cf CD true) := by
  obtain ⟨gF, gD, fdF, fdD, Z, FE, bE, DE, bD⟩ := Y.ex
  have z := op_eqO (X := X) Z.ed (FnOk.raw DE bD .nil) (hr.mono hk) (pass0 (X := X))
  intro pins s σ H x y v u Q I rx ry h
  obtain ⟨d, d', g, g', rfl, rfl, D, D', e1, e2, e3, e4, q⟩ := h
  obtain ⟨dx, e⟩ := D.ins
  obtain ⟨dx', e'⟩ := D'.ins
  have nfs : PySem.W.notFirst X.K CD (.ref CD) = true := by unfold PySem.W.notFirst; simp
  exact z pins s σ H _ _ v u Q I rx ry (.inl ⟨d, dx, _, rfl, e, .own e' nfs, d, _, _, _, _, _, _, _, _, _, _, _, _, _, true, rfl, D, D.eqw D' e1 e2 e3 e4, fun H1 k1 => ⟨true, rfl, q H1 k1⟩⟩)
theorem op_neDoors {X : Cx} {j : Nat} {Cf CD : Addr} (Y : DrQ2 X.prog X.w X.K X.mg X.base Cf CD) (hr : Room j X.A) (hk : 4 ≤ j) : OpR X (compareOp .NotEq) (rDoorsEq X.K Cf CD false) := by
  obtain ⟨gF, gD, fdF, fdD, Z, FE, bE, DE, bD⟩ := Y.ex
  have z := op_neO (X := X) Z.ed (FnOk.raw DE bD .nil) (hr.mono hk) (pass0 (X := X))
  intro pins s σ H x y v u Q I rx ry h
  obtain ⟨d, d', g, g', rfl, rfl, D, D', e1, e2, e3, e4, q⟩ := h
  obtain ⟨dx, e⟩ := D.ins
  obtain ⟨dx', e'⟩ := D'.ins
  have nfs : PySem.W.notFirst X.K CD (.ref CD) = true := by unfold PySem.W.notFirst; simp
  exact z pins s σ H _ _ v u Q I rx ry (.inl ⟨d, dx, _, rfl, e, .own e' nfs, d, _, _, _, _, _, _, _, _, _, _, _, _, _, true, rfl, D, D.eqw D' e1 e2 e3 e4, fun H1 k1 => ⟨true, rfl, q H1 k1⟩⟩)

/-- foldings of the same steps == -/
def rFoldsEq (K : PySem.W.Frag) (C : Addr) (k : Bool) : R2 := fun x y H Q => ∃ o o' r r' sts, x = .ref o ∧ y = .ref o' ∧ FoldAt K C H o r sts ∧ FoldAt K C H o' r' sts ∧ Q (.bl k) H
theorem op_eqFolds {X : Cx} {j : Nat} {Cf CD : Addr} (Y : DrQ2 X.prog X.w X.K X.mg X.base Cf CD) (hr : Room j X.A) (hk : 1 ≤ j) : OpR X (compareOp .Eq) (rFoldsEq X.K Cf true) := by
  obtain ⟨gF, gD, fdF, fdD, Z, FE, bE, DE, bD⟩ := Y.ex
  have z := op_eqO (X := X) Z.ef (FnOk.raw FE bE .nil) (hr.mono hk) (pass0 (X := X))
  intro pins s σ H x y v u Q I rx ry h
  obtain ⟨o, o', r, r', sts, rfl, rfl, D, D', q⟩ := h
  obtain ⟨dx, e⟩ := D.1
  obtain ⟨dx', e'⟩ := D'.1
  have nfs : PySem.W.notFirst X.K Cf (.ref Cf) = true := by unfold PySem.W.notFirst; simp
  exact z pins s σ H _ _ v u Q I rx ry (.inl ⟨o, dx, _, rfl, e, .own e' nfs, o, r, sts, _, rfl, D, .inl ⟨o', r', sts, rfl, D', ⟨true, by rw [rEq_refl D], q⟩⟩⟩)
theorem op_neFolds {X : Cx} {j : Nat} {Cf CD : Addr} (Y : DrQ2 X.prog X.w X.K X.mg X.base Cf CD) (hr : Room j X.A) (hk : 2 ≤ j) : OpR X (compareOp .NotEq) (rFoldsEq X.K Cf false) := by
  obtain ⟨gF, gD, fdF, fdD, Z, FE, bE, DE, bD⟩ := Y.ex
  have z := op_neO (X := X) Z.ef (FnOk.raw FE bE .nil) (hr.mono hk) (pass0 (X := X))
  intro pins s σ H x y v u Q I rx ry h
  obtain ⟨o, o', r, r', sts, rfl, rfl, D, D', q⟩ := h
  obtain ⟨dx, e⟩ := D.1
  obtain ⟨dx', e'⟩ := D'.1
  have nfs : PySem.W.notFirst X.K Cf (.ref Cf) = true := by unfold PySem.W.notFirst; simp
  exact z pins s σ H _ _ v u Q I rx ry (.inl ⟨o, dx, _, rfl, e, .own e' nfs, o, r, sts, _, rfl, D, .inl ⟨o', r', sts, rfl, D', ⟨true, by rw [rEq_refl D], q⟩⟩⟩)
theorem sm_vals2 {K : PySem.W.Frag} {H : Hp} {p p' : Addr} {st : Stp} (h : StpAt H p st) (h' : StpAt H p' st) : Sm K H 1 (.ref p) (.ref p') := by
  refine .tup h.seq h'.seq rfl (by cases st <;> simp [stpVals]) fun i x y e1 e2 => ?_
  rw [e1] at e2
  cases e2
  have key : ∀ v ∈ stpVals st, Sm K H 0 v v := by
    intro v hv
    cases st <;> simp [stpVals] at hv <;> (try rcases hv with rfl | rfl | rfl) <;> (try rcases hv with rfl | rfl) <;> (try subst hv) <;> first | exact .str _ | exact .int _
  exact key x (List.mem_of_getElem? e1)
theorem sm_row2 {K : PySem.W.Frag} {H : Hp} {r r' : Addr} {sts : List Stp} (h : RowAt K H r sts) (h' : RowAt K H r' sts) (h6 : sts.length ≤ 6) : Sm K H 2 (.ref r) (.ref r') := by
  obtain ⟨ps, hp, al⟩ := h
  obtain ⟨ps', hp', al'⟩ := h'
  refine .tup hp hp' (by rw [List.length_map, List.length_map, al.len, al'.len]) (by rw [List.length_map, al.len]; omega) fun i x y e1 e2 => ?_
  rw [List.getElem?_map] at e1 e2
  obtain ⟨p, f1, rfl⟩ := Option.map_eq_some_iff.mp e1
  obtain ⟨p', f2, rfl⟩ := Option.map_eq_some_iff.mp e2
  obtain ⟨st, e3, hst, _⟩ := al.get f1
  obtain ⟨st', e4, hst', _⟩ := al'.get f2
  rw [e3] at e4
  cases e4
  exact sm_vals2 hst hst'
/-! ### a folding there and back -/
structure ClN (P : Program) (w : World) (K : PySem.W.Frag) (mg : Str → Option Value) (base : Heap) (k : Nat) (x : Str) (sp : Nat → Sp) : Prop where
  ex : ∃ (f : Addr), (∀ n, FnN n P w K mg base k f (sp n)) ∧ mg x = some (.ref f) ∧ PySem.W.keepIn K (.ref f) = true
theorem pen_clN {X : Cx} {n k j : Nat} {x : Str} {sp : Nat → Sp} {e : Expr} {es : List Expr} {t : TA} {p pos : Pos} (c : ClN X.prog X.w X.K X.mg X.base k x sp) (hr : Room j X.A) (hk : k ≤ j) (hg : Gl X x) (ha : PAn n X (e :: es) t)
    (hdb : (x == ("__debug__" : Str)) = false := by decide) (he : starEach (e :: es) X.env = (false, eval e X.env) :: starEach es X.env := by rfl) (hpl : (backTo pos (starEach es X.env)).any (·.1) = false := by rfl) :
    PEn n X (.Call (.Name x p) (e :: es) [] pos) (tCall (sp n) [] E0 t) := by
  obtain ⟨f, F, hm, kp⟩ := c.ex
  exact pen_callN (F n) (hr.mono hk) hg hm kp ha hdb he hpl

def spRound (K : PySem.W.Frag) (n : Nat) : Sp := fun vs H Q _ => ∃ (r u : Addr) (sts : List Stp) (ts : List (List Nat)), vs = [.ref r, .ref u] ∧ RowB K n H r sts ∧ sts.length ≤ 6 ∧ H u = some (.lst (txV ts)) ∧ (∀ t ∈ ts, Good t) ∧ ts.length ≤ 100 ∧ ∀ H', Ext H H' → Q (.bl true) H'
section
variable {P : Program} {w : World} {K : PySem.W.Frag} {mg : Str → Option Value} {base : Heap}
theorem ok_round {f Cf CD : Addr} {fd : FuncData} (n : Nat) (F : Fun K "_law_round" "_law_round" sLawRound f fd) (T : Nms mg) (Z : Fcl K mg Cf) (IC : C8.InsC K Cf) (Y : Fol P w K mg base Cf) (X : FolS P w K mg base Cf) (Y2 : DrQ2 P w K mg base Cf CD) (GT : Cl P w K mg base 2 "_law_folding_text" (spLText K)) (GR : Cl P w K mg base 6 "read_folding" (spReadT K Cf)) (GF : Cl P w K mg base 3 "folding_text" (spFText K Cf))
    (GS : Cl P w K mg base 3 "_law_same" (spSame K 2)) (GO : ClN P w K mg base 1 "_law_fold" (spLFold K)) : FnN n P w K mg base 7 f (spRound K n) := by
  refine fnN_of F scLawRound (fun kV doc pm an cdv ct us hl => match us, hl with | [_, _], _ => rfl) (fun vs H Q E h => ?_) (fun cdv A outer s H vs Q E hr h => ?_)
  · obtain ⟨r, u, sts, ts, rfl, _⟩ := h
    rfl
  · obtain ⟨r, u, sts, ts, rfl, RB, h6, hu, hg, hz, q⟩ := h
    have nd := scLawRound.nd
    obtain ⟨fi, fdi, M, FI, bI⟩ := Y.made
    obtain ⟨gc, fc, cO, FC, bC⟩ := Y.call
    obtain ⟨gs, fds, ms, Fs, bs⟩ := X.steps
    obtain ⟨gS, fS, pS, FS, mS, kS, bS⟩ := GS
    have hr1 := hr.mono (show 1 ≤ 6 by decide)
    have hr4 := hr.mono (show 4 ≤ 6 by decide)
    refine ⟨_, PSsn.nox (pssn_cons (psn (ps_par (i := 2) (j := 3) (by rfl) nd rfl rfl (by decide) rfl rfl (pa_cons (pe_make M FI (hr.mono (by decide)) rfl Z.mgC bI .nil pass0 (pa_cons (pv 0) pa_nil)) (pa_cons (pe_cl GT hr (by decide) rfl (pa_cons (pv 0) pa_nil)) pa_nil)) (by rfl)))
      (pssn_cons (psn (ps_set (i := 4) nd rfl (Or.inl rfl) (pe_cl GR hr (by decide) rfl (pa_cons (pv 3) pa_nil))))
      (pssn_cons (psn (ps_if (PW.pt (pw_or (pt_not (pt_val (pe_callB (C8.call_isC IC) (by rfl) T.isi (by decide +kernel) (pa_cons (pv 4) (pa_cons (pe_glob (v := .ref Cf) rfl Z.mgC rfl) pa_nil)))))
          (pw_or (pt_not (pt_val (pe_cl ⟨gS, fS, pS, FS, mS, kS, bS⟩ hr (by decide) rfl (pa_cons (pe_meth0 (pv 4) X.cl ms Fs hr1 bs .nil pass0) (pa_cons (pv 0) pa_nil)))))
          (pw_or1 (pt_not (pt_cmpR (op_eqFolds Y2 hr (by decide)) (pv 4) (pv 2) (nomark _))))))) pss_never pss_nil))
      (pssn_cons (psn (ps_if (PW.pt (pw_or (pt_not (pt_val (pe_cl ⟨gS, fS, pS, FS, mS, kS, bS⟩ hr (by decide) rfl (pa_cons (pe_cl GF hr (by decide) rfl (pa_cons (pv 4) pa_nil)) (pa_cons (pv 3) pa_nil)))))
          (pw_or1 (pt_cmpR (op_neFolds Y2 hr (by decide)) (pe_cl GR hr (by decide) rfl (pa_cons (pe_cl GF hr (by decide) rfl (pa_cons (pv 2) pa_nil)) pa_nil)) (pv 2) (nomark _))))) pss_never pss_nil))
      (pssn_cons (psn_for PassesOwn.never rfl (pi_list (pv 1)) (pg_name (i := 5) nd rfl (Or.inl rfl))
        (pssn_one (psn_if (PWn.ptn (pwn_or (ptn_not (ptn_val (pen_call (FnOk.raw FS bS .nil) (hr.mono (by decide)) rfl mS kS pass0 (pan_cons (pen (StX.pe_callO (pv 4) cO (FnOk.raw FC bC .nil) hr4 pass0 (pa_cons (pv 5) pa_nil))) (pan_cons (pen_clN GO hr (by decide) rfl (pan (pa_cons (pv 0) (pa_cons (pv 5) pa_nil)))) pan_nil)))))
          (pwn_or1 (ptn (pt_cmpR op_ne (StX.pe_callO (pv 4) cO (FnOk.raw FC bC .nil) hr4 pass0 (pa_cons (pv 5) pa_nil)) (StX.pe_callO (pv 2) cO (FnOk.raw FC bC .nil) hr4 pass0 (pa_cons (pv 5) pa_nil)) (nomark _)))))) (pssn pss_never) (pssn pss_nil))))
      (pssn_one (psn (ps_ret pe_bl)))))))), ?_⟩
    have RA := RB.row
    have ok := RA.ok
    refine ⟨_, rfl, fun o dx ho hdx ne => made_ask RA h6 ho hdx ne fun H1 W1 k1 => ⟨rfl, ?_⟩⟩
    refine ⟨_, rfl, r, sts, rfl, RA.ext k1, h6, fun H2 k2 => ⟨_, _, rfl, ?_⟩⟩
    refine ⟨_, rfl, sts, rfl, ok, h6, fun b rb H3 k3 B3 => ?_⟩
    have k03 := (k1.trans k2).trans k3
    have W3 := (W1.ext k2).ext k3
    obtain ⟨dxb, eb⟩ := B3.1
    refine ⟨_, rfl, b, dxb, _, rfl, eb, true, rfl, iteF ?_⟩
    refine ⟨_, rfl, b, dxb, _, rfl, eb, rfl, b, rb, sts, rfl, B3, ?_⟩
    refine ⟨_, rfl, _, _, rfl, sm_row2 B3.2.1 (RA.ext k03) h6, fun H4 k4 => ⟨true, rfl, iteF ?_⟩⟩
    refine ⟨_, rfl, _, rfl, b, o, rb, _, sts, rfl, rfl, B3.ext k4, W3.ext k4, true, rfl, iteF ?_⟩
    have B4 := B3.ext k4
    have W4 := W3.ext k4
    refine ⟨_, rfl, b, rb, sts, rfl, B4, fun H5 k5 => ?_⟩
    refine ⟨_, rfl, _, _, rfl, .str _, fun H6 k6 => ⟨true, rfl, iteF ?_⟩⟩
    have k46 := k5.trans k6
    refine ⟨_, rfl, o, r, sts, rfl, W4.ext k46, fun H7 k7 => ?_⟩
    refine ⟨sts, rfl, ok, h6, fun b2 rb2 H8 k8 B8 => ?_⟩
    have k48 := (k46.trans k7).trans k8
    refine ⟨_, rfl, b2, o, rb2, _, sts, rfl, rfl, B8, W4.ext k48, false, rfl, iteF ?_⟩
    have k08 := (k03.trans k4).trans k48
    refine ⟨_, rfl, u, rfl, ⟨_, SqL.of (k08 _ _ hu)⟩, for_list (xs := txV ts) (fun i σ H' => ∃ u5, σ = [some (.ref r), some (.ref u), some (.ref o), some (.str (S (ftext sts))), some (.ref b), u5] ∧ Ext H8 H') ⟨_, rfl, .refl⟩ (fun i σ H' _ p => by
      obtain ⟨_, _, k⟩ := p
      exact SqL.of (k _ _ (k08 _ _ hu))) ?_ ?_⟩
    · rintro i x0 σ H9 hx ⟨u5, rfl, k9⟩
      unfold txV at hx
      rw [List.getElem?_map] at hx
      obtain ⟨t, ht, rfl⟩ := Option.map_eq_some_iff.mp hx
      have gt := hg t (List.mem_of_getElem? ht)
      have B9 := (B4.ext k48).ext k9
      have W9 := (W4.ext k48).ext k9
      have RB9 := (RB.ext k08).ext k9
      refine ⟨_, rfl, b, rfl, _, rfl, B9.ins, b, rb, sts, t, rfl, B9, gt, fun H10 k10 => ?_⟩
      refine ⟨_, rfl, _, rfl, r, sts, t, rfl, RB9.ext k10, gt, fun H11 k11 => ?_⟩
      refine ⟨_, _, rfl, .str _, fun H12 k12 => ⟨true, rfl, iteF ?_⟩⟩
      have k912 := (k10.trans k11).trans k12
      have B12 := B9.ext k912
      refine ⟨_, rfl, b, rfl, _, rfl, B12.ins, b, rb, sts, t, rfl, B12, gt, fun H13 k13 => ?_⟩
      have W13 := (W9.ext k912).ext k13
      refine ⟨_, rfl, o, rfl, _, rfl, W13.ins, o, r, sts, t, rfl, W13, gt, fun H14 k14 => ?_⟩
      refine ⟨rfl, _, rfl, ?_⟩
      have e : (!decide (V.str (S (mks sts t)) = V.str (S (mks sts t)))) = false := by rw [decide_eq_true rfl]; rfl
      show if (!decide (V.str (S (mks sts t)) = V.str (S (mks sts t)))) = true then _ else _
      rw [e]
      exact iteF ⟨_, rfl, ((k9.trans k912).trans k13).trans k14⟩
    · rintro σ H9 ⟨u5, rfl, k9⟩
      exact q H9 (k08.trans k9)
end
end Pd

set_option maxHeartbeats 4000000
namespace Pd
open PySem PySem.Spec PyProof.Rows L2 SX
/-! ### sums, and all but one -/
def spWoG (K : PySem.W.Frag) (C : Addr) : Sp := fun vs H Q _ => ∃ (o r : Addr) (sts : List Stp) (i : Nat), vs = [.ref o, .int (i : Nat)] ∧ FoldAt K C H o r sts ∧ i < sts.length ∧ ∀ o' r' H', Ext H H' → FoldAt K C H' o' r' (sts.take i ++ sts.drop (i + 1)) → Q (.ref o') H'
section
variable {P : Program} {w : World} {K : PySem.W.Frag} {mg : Str → Option Value} {base : Heap}
theorem ok_fwo {f Cf : Addr} {fd : FuncData} (F : Fun K "without" "Folding.without" sFoldingWithout f fd) (T : Nms mg) (Z : Fcl K mg Cf) (Y : Fol P w K mg base Cf) (G : Cl P w K mg base 1 "is_integer" (spIntE K)) : FnOk P w K mg base CX0 6 f fd ["self", "index"] (spWoG K Cf) := by
  refine F.ok scFoldingWithout (fun vs H Q E h => ?_) (fun cdv A outer s H vs Q E hr h => ?_)
  · obtain ⟨o, r, sts, i, rfl, _⟩ := h
    rfl
  · obtain ⟨o, r, sts, i, rfl, ⟨⟨dx, e⟩, hR, h6⟩, hlt, q⟩ := h
    obtain ⟨fi, fdi, M, FI, bI⟩ := Y.made
    refine ⟨_, pss_cons (ps_if (PW.pt (pw_or (pt_not (pt_val (pe_cl G hr (by decide) rfl (pa_cons (pv 1) pa_nil)))) (pw_or1 (pt_not (pt_chain op_le op_lt pe_int (pv 1) (pe_callB call_len_seq (by rfl) T.len PySem.boot_len (pa_cons (pe_fld (pv 0) rfl) pa_nil))))))) pss_never pss_nil)
      (pss_one (ps_ret (pe_make M FI (hr.mono (by decide)) rfl Z.mgC bI .nil pass0 (pa_cons (pe_op op_catA (pe_slice sl_tupA (pe_fld (pv 0) rfl) po_none (po_some (pv 1))) (pe_slice sl_tupA (pe_fld (pv 0) rfl) (po_some (pe_op op_add (pv 1) pe_int)) po_none)) pa_nil)))), ?_⟩
    obtain ⟨ps, hps, al⟩ := id hR
    have ll := al.len
    refine ⟨_, rfl, _, _, rfl, .num _, true, rfl, iteF ?_⟩
    refine ⟨_, rfl, _, _, rfl, rfl, _, rfl, ?_⟩
    rw [decide_eq_true (show (0 : Int) ≤ (i : Nat) by omega)]
    refine iteT ⟨_, rfl, o, Cf, dx, _, _, rfl, e, Z.cl, Z.nS, rfl, r, _, rfl, .inr hps, _, _, rfl, rfl, _, rfl, ?_⟩
    rw [List.length_map, decide_eq_true (show ((i : Nat) : Int) < (ps.length : Nat) by omega)]
    refine iteF ?_
    refine ⟨_, rfl, o, Cf, dx, _, _, rfl, e, Z.cl, Z.nS, rfl, _, rfl, (i : Nat), rfl, row_take hR (by omega) fun r1 H1 k1 R1 => ?_⟩
    refine ⟨_, rfl, o, Cf, dx, _, _, rfl, k1 _ _ e, Z.cl, Z.nS, rfl, _, rfl, _, _, rfl, rfl, _, rfl, row_drop' (K := K) (hR.ext k1) (by omega) fun r2 H2 k2 R2 => ?_⟩
    have e1 : ((i : Nat) : Int).toNat = i := by omega
    have e2 : (((i : Nat) : Int) + 1).toNat = i + 1 := by omega
    rw [e1] at R1
    rw [e2] at R2
    have hl : (sts.take i ++ sts.drop (i + 1)).length ≤ 6 := by rw [List.length_append, List.length_take, List.length_drop]; omega
    refine row_cat (R1.ext k2) R2 (by rw [List.length_append] at hl; omega) fun r3 H3 k3 R3 x dx' hx hdx ne => ?_
    exact made_ask R3 hl hx hdx ne fun H4 F4 k4 => ⟨rfl, q x r3 H4 (((k1.trans k2).trans k3).trans k4) F4⟩
end
structure FolAw (P : Program) (w : World) (K : PySem.W.Frag) (mg : Str → Option Value) (base : Heap) (C : Addr) : Prop where
  add : ∃ (g : Addr) (fd : FuncData), PySem.W.selfFirst K C = true ∧ PySem.W.findIn K (.ref C) "__add__" = some (some (.ref g)) ∧ PySem.W.isFn K (.ref g) = true ∧ FnOk P w K mg base CX0 6 g fd ["self", "other"] (spAdd K C) ∧ Binds K fd ["self", "other"] []
  wo : ∃ (g : Addr) (fd : FuncData), Meth K C "without" g ∧ FnOk P w K mg base CX0 6 g fd ["self", "index"] (spWoG K C) ∧ Binds K fd ["self", "index"] []
def spParts (K : PySem.W.Frag) : Sp := fun vs H Q _ => ∃ (r r2 : Addr) (sts tts : List Stp), vs = [.ref r, .ref r2] ∧ RowAt K H r sts ∧ sts.length ≤ 6 ∧ RowAt K H r2 tts ∧ tts.length ≤ 6 ∧ ∀ H', Ext H H' → Q (.bl true) H'
section
variable {P : Program} {w : World} {K : PySem.W.Frag} {mg : Str → Option Value} {base : Heap}
theorem ok_parts {f Cf : Addr} {fd : FuncData} (F : Fun K "_law_parts" "_law_parts" sLawParts f fd) (T : Nms mg) (Z : Fcl K mg Cf) (Y : Fol P w K mg base Cf) (A : FolAw P w K mg base Cf) (X : FolS P w K mg base Cf) (GT : Cl P w K mg base 2 "_law_folding_text" (spLText K)) (GF : Cl P w K mg base 3 "folding_text" (spFText K Cf))
    (GS : Cl P w K mg base 3 "_law_same" (spSame K 2)) : FnOk P w K mg base CX0 7 f fd ["steps", "others"] (spParts K) := by
  refine F.ok scLawParts (fun vs H Q E h => ?_) (fun cdv A' outer s H vs Q E hr h => ?_)
  · obtain ⟨r, r2, sts, tts, rfl, _⟩ := h
    rfl
  · obtain ⟨r, r2, sts, tts, rfl, R1, l1, R2, l2, q⟩ := h
    have nd := scLawParts.nd
    obtain ⟨fi, fdi, M, FI, bI⟩ := Y.made
    obtain ⟨ga, fda, hsf, ha1, ha2, FA, bA⟩ := A.add
    obtain ⟨gw, fdw, mw, FW, bW⟩ := A.wo
    refine ⟨_, C8.pss_cut (ps_if (pt_cmpR op_lt (pe_op op_add (pe_callB call_len_seq (by rfl) T.len PySem.boot_len (pa_cons (pv 0) pa_nil)) (pe_callB call_len_seq (by rfl) T.len PySem.boot_len (pa_cons (pv 1) pa_nil))) pe_int (nomark _))
        (pss_cons (ps_set (i := 2) nd rfl (Or.inl rfl) (pe_cl GF hr (by decide) rfl (pa_cons (pe_op (op_addOwn hsf ha1 ha2 (FnOk.raw FA bA .nil) hr pass0) (pe_make M FI (hr.mono (by decide)) rfl Z.mgC bI .nil pass0 (pa_cons (pv 0) pa_nil)) (pe_make M FI (hr.mono (by decide)) rfl Z.mgC bI .nil pass0 (pa_cons (pv 1) pa_nil))) pa_nil)))
        (pss_one (ps_if (pt_not (pt_val (pe_cl GS hr (by decide) rfl (pa_cons (pv 2) (pa_cons (pe_cl GT hr (by decide) rfl (pa_cons (pe_op op_catA (pv 0) (pv 1)) pa_nil)) pa_nil))))) pss_never pss_nil))) pss_nil)
      (pss_cons (ps_for PassesOwn.never rfl (pi_range1 rfl T.range (pa_cons (pe_callB call_len_seq (by rfl) T.len PySem.boot_len (pa_cons (pv 0) pa_nil)) pa_nil)) (pg_name (i := 3) nd rfl (Or.inl rfl))
        (pss_cons (ps_set (i := 4) nd rfl (Or.inl rfl) (pe_op op_catA (pe_slice sl_tupA (pv 0) po_none (po_some (pv 3))) (pe_slice sl_tupA (pv 0) (po_some (pe_op op_add (pv 3) pe_int)) po_none)))
        (pss_one (ps_if (pt_not (pt_val (pe_cl GS hr (by decide) rfl (pa_cons (pe_cl GF hr (by decide) rfl (pa_cons (pe_meth (pe_make M FI (hr.mono (by decide)) rfl Z.mgC bI .nil pass0 (pa_cons (pv 0) pa_nil)) X.cl mw FW hr bW .nil pass0 (pa_cons (pv 3) pa_nil)) pa_nil)) (pa_cons (pe_cl GT hr (by decide) rfl (pa_cons (pv 4) pa_nil)) pa_nil))))) pss_never pss_nil))))
      (pss_one (ps_ret pe_bl))), ?_⟩
    obtain ⟨ps, hps, al⟩ := id R1
    obtain ⟨qs, hqs, bl⟩ := id R2
    have lp := al.len
    have lq := bl.len
    refine ⟨fun σ' H' => ∃ u2, σ' = [some (.ref r), some (.ref r2), u2, none, none] ∧ Ext H H', ?_, ?_⟩
    · refine ⟨_, rfl, r, _, rfl, .inr hps, _, rfl, r2, _, rfl, .inr hqs, _, _, rfl, rfl, _, _, rfl, rfl, _, rfl, ?_⟩
      rw [List.length_map, List.length_map]
      refine ite2 (fun hh => ?_) (fun _ => ⟨_, rfl, .refl⟩)
      have hh : ((ps.length : Nat) : Int) + (qs.length : Nat) < 7 := of_decide_eq_true hh
      refine ⟨_, rfl, fun o dx ho hdx ne => made_ask R1 l1 ho hdx ne fun H1 F1 k1 => ⟨rfl, _, rfl, fun o2 dx2 ho2 hdx2 ne2 => made_ask (R2.ext k1) l2 ho2 hdx2 ne2 fun H2 F2 k2 => ⟨rfl, ?_⟩⟩⟩
      have F1' := F1.ext k2
      obtain ⟨dy1, e1⟩ := F1'.1
      obtain ⟨dy2, e2⟩ := F2.1
      refine ⟨o, dy1, _, o2, dy2, _, rfl, rfl, e1, e2, o, r, o2, r2, _, _, rfl, F1', F2, by omega, fun o3 r3 H3 k3 F3 => ?_⟩
      refine ⟨o3, r3, sts ++ tts, rfl, F3, fun H4 k4 => ?_⟩
      have k04 := ((k1.trans k2).trans k3).trans k4
      refine ⟨_, rfl, _, rfl, _, rfl, row_cat (R1.ext k04) (R2.ext k04) (by omega) fun r4 H5 k5 R5 => ?_⟩
      refine ⟨r4, sts ++ tts, rfl, R5, by rw [List.length_append]; omega, fun H6 k6 => ?_⟩
      exact ⟨_, _, rfl, .str _, fun H7 k7 => ⟨true, rfl, iteF ⟨_, rfl, (((k04.trans k5).trans k6).trans k7)⟩⟩⟩
    rintro σ1 H1 ⟨u2, rfl, k1⟩
    have hps1 : SqT K H1 r (ps.map V.ref) := sqT_keep hps fun o e => k1 _ _ e
    refine ⟨_, rfl, r, _, rfl, .inr hps1, _, rfl, ?_⟩
    rw [List.length_map]
    refine ⟨by omega, by omega, for_range (lo := 0) (n := ps.length) (fun i σ H' => ∃ u3 u4, σ = [some (.ref r), some (.ref r2), u2, u3, u4] ∧ Ext H H') ⟨_, _, rfl, k1⟩ ?_ ?_⟩
    · rintro i σ H2 hi ⟨u3, u4, rfl, k2⟩
      have ei : (0 : Int) + (i : Nat) = ((i : Nat) : Int) := by omega
      show gName 3 (V.int (0 + (i : Nat))) _ _ _
      rw [ei]
      have Rk := R1.ext k2
      refine ⟨_, rfl, _, rfl, (i : Nat), rfl, row_take Rk (by omega) fun r1 H3 k3 T1 => ?_⟩
      refine ⟨_, rfl, _, rfl, _, _, rfl, rfl, _, rfl, row_drop' (K := K) (Rk.ext k3) (by omega) fun r2' H4 k4 T2 => ?_⟩
      rw [show ((i : Nat) : Int).toNat = i by omega] at T1
      rw [show (((i : Nat) : Int) + 1).toNat = i + 1 by omega] at T2
      have hl : (sts.take i ++ sts.drop (i + 1)).length ≤ 6 := by rw [List.length_append, List.length_take, List.length_drop]; omega
      refine row_cat (T1.ext k4) T2 (by rw [List.length_append] at hl; omega) fun r3 H5 k5 T3 => ?_
      have k25 := (k3.trans k4).trans k5
      refine ⟨_, rfl, fun o dx ho hdx ne => made_ask (Rk.ext k25) l1 ho hdx ne fun H6 F6 k6 => ⟨rfl, ?_⟩⟩
      obtain ⟨dx6, e6⟩ := F6.1
      refine ⟨o, dx6, _, rfl, e6, rfl, _, rfl, o, r, sts, i, rfl, F6, by omega, fun o' r' H7 k7 F7 => ?_⟩
      refine ⟨o', r', _, rfl, F7, fun H8 k8 => ?_⟩
      have k58 := (k6.trans k7).trans k8
      refine ⟨_, rfl, r3, _, rfl, T3.ext k58, hl, fun H9 k9 => ?_⟩
      exact ⟨_, _, rfl, .str _, fun H10 k10 => ⟨true, rfl, iteF ⟨_, _, rfl, (((k2.trans k25).trans k58).trans k9).trans k10⟩⟩⟩
    · rintro σ H2 ⟨u3, u4, rfl, k2⟩
      exact q H2 k2
end
end Pd

set_option maxHeartbeats 4000000
namespace Pd
open PySem PySem.Spec PyProof.Rows L2 SX
/-! ### the answers by a dict -/
def KT (kvs : List (Key × V)) (T : List Nat → Bool) : Prop := ∀ g : List Nat, (valV kvs (.inr (S g))).getD (.bl false) = .bl (T g)
theorem putK_len' {kvs : List (Key × V)} {k : Key} {x : V} : (putK kvs k x).length ≤ kvs.length + 1 := by
  unfold putK
  split
  · rw [List.length_map]; exact Nat.le_succ _
  · rw [List.length_append]; exact Nat.le_refl _
theorem KT.put {kvs : List (Key × V)} {T : List Nat → Bool} (h : KT kvs T) (f : List Nat) (b : Bool) : KT (putK kvs (.inr (S f)) (.bl b)) (fun g => if g = f then b else T g) := fun g => by
  rw [valV_put]
  show _ = V.bl (if g = f then b else T g)
  by_cases e : g = f
  · subst e; rw [if_pos rfl, if_pos rfl]; rfl
  · rw [if_neg (fun z => e (SX.S_inj (Sum.inr.inj z))), if_neg e]; exact h g
theorem fourB_parts {K : PySem.W.Frag} {b : Nat} {H : Hp} {l : Addr} {rs : List Addr} {rws : List (List Stp)} (h : FourB K b H l rs rws) : ∃ r1 r2 r3 r4 s1 s2 s3 s4, rs = [r1, r2, r3, r4] ∧ rws = [s1, s2, s3, s4] ∧ RowB K b H r1 s1 ∧ RowB K b H r2 s2 ∧ RowB K b H r3 s3 ∧ RowB K b H r4 s4 ∧
    s1.length ≤ 6 ∧ s2.length ≤ 6 ∧ s3.length ≤ 6 ∧ s4.length ≤ 6 := by
  obtain ⟨_, w, l4⟩ := h
  cases w with
  | nil => simp at l4
  | cons h1 b1 w => cases w with
    | nil => simp at l4
    | cons h2 b2 w => cases w with
      | nil => simp at l4
      | cons h3 b3 w => cases w with
        | nil => simp at l4
        | cons h4 b4 w => cases w with
          | nil => exact ⟨_, _, _, _, _, _, _, _, rfl, rfl, h1, h2, h3, h4, b1, b2, b3, b4⟩
          | cons h5 b5 w => simp at l4
def spLAnsw (K : PySem.W.Frag) (n : Nat) : Sp := fun vs H Q _ => ∃ (fo dl : Addr) (rs : List Addr) (s1 s2 s3 s4 : List Stp) (ps : List Addr) (ds : List Deed), vs = [.ref fo, .ref dl] ∧ FourB K n H fo rs [s1, s2, s3, s4] ∧ H dl = some (.lst (ps.map V.ref)) ∧ DAl K H ps ds ∧ ds.length ≤ 100 ∧
  ∀ t H', H t = none → H' t = some (.lst ((walkS (dfs s1 s2 s3) noneS ds).map V.bl)) → Ext H H' → Q (.ref t) H'
theorem nmIx (d : Dr) : ∃ j, [V.str "put", .str "find", .str "strike"][j]? = some (.str d.nm) ∧ j < 3 ∧ (∀ m z', m < j → [V.str "put", .str "find", .str "strike"][m]? = some z' → eqV z' (.str d.nm) = false) ∧ (d = .put → j = 0) ∧ (d = .find → j = 1) ∧ (d = .strike → j = 2) := by
  cases d with
  | put => exact ⟨0, rfl, by decide, fun m z' h => absurd h (Nat.not_lt_zero _), fun _ => rfl, (fun h => nomatch h), (fun h => nomatch h)⟩
  | find => exact ⟨1, rfl, by decide, fun m z' h e => (by
      obtain rfl : m = 0 := by omega
      cases e; decide +kernel), (fun h => nomatch h), fun _ => rfl, (fun h => nomatch h)⟩
  | strike => exact ⟨2, rfl, by decide, fun m z' h e => (by
      rcases (show m = 0 ∨ m = 1 by omega) with rfl | rfl
      · cases e; decide +kernel
      · cases e; decide +kernel), (fun h => nomatch h), (fun h => nomatch h), fun _ => rfl⟩
section
variable {P : Program} {w : World} {K : PySem.W.Frag} {mg : Str → Option Value} {base : Heap}
theorem ok_lansw {f : Addr} {fd : FuncData} (n : Nat) (F : Fun K "_law_answers" "_law_answers" sLawAnswers f fd) (T : Nms mg) (GO : ClN P w K mg base 1 "_law_fold" (spLFold K)) : FnN n P w K mg base 3 f (spLAnsw K n) := by
  refine fnN_of F scLawAnswers (fun kV doc pm an cdv ct us hl => match us, hl with | [_, _], _ => rfl) (fun vs H Q E h => ?_) (fun cdv A outer s H vs Q E hr h => ?_)
  · obtain ⟨fo, dl, rs, s1, s2, s3, s4, ps, ds, rfl, _⟩ := h
    rfl
  · obtain ⟨fo, dl, rs, s1, s2, s3, s4, ps, ds, rfl, F0, hdl, al, hl, q⟩ := h
    have nd := scLawAnswers.nd
    have hu : (A.deeper (envOfC "_law_answers" (defScope sLawAnswers) s.heap.objs.size f cdv)).units + 1 < cLine := by
      have := hr.units
      omega
    refine ⟨_, PSsn.nox (pssn_cons (psn (ps_par (i := 2) (j := 3) (by rfl) nd rfl rfl (by decide) rfl rfl (pa_cons pe_dnewK (pa_cons (pe_lst pa_nil) pa_nil)) (by rfl)))
      (pssn_cons (psn_for PassesOwn.never rfl (pi_list (pv 1)) (pg_tup (by rfl) (pgs_cons (pg_name (i := 4) nd rfl (Or.inl rfl)) (pgs_cons (pg_name (i := 5) nd rfl (Or.inl rfl)) pgs_nil)))
        (pssn_cons (psn_set (i := 6) nd rfl (Or.inl rfl) (pen_clN GO hr (by decide) rfl (pan (pa_cons (pe_ix ix_list (pv 0) (pe_bm PySem.F.plainAttrs_list PySem.F.slot_list_index PySem.F.type_list_index mt_index (pe_lst (pa_cons pe_str (pa_cons pe_str (pa_cons pe_str pa_nil)))) (pa_cons (pv 4) pa_nil)) (fun _ _ => rfl)) (pa_cons (pv 5) pa_nil)))))
        (pssn_cons (psn (ps_set (i := 7) nd rfl (Or.inl rfl) (pe_dget2 hu (pv 2) (pv 6) pe_bl ⟨rfl, rfl, rfl, rfl⟩)))
        (pssn_cons (psn (ps_expr (pe_bm PySem.F.plainAttrs_list PySem.F.slot_list_append PySem.F.type_list_append mt_append (pv 3) (pa_cons (pe_ifExp (pt_cmpR op_ne (pv 4) pe_str (nomark _)) (pv 7) (pe_not (pv 7))) pa_nil))))
        (pssn_one (psn (ps_if (pt_cmpR op_ne (pv 4) pe_str (nomark _)) (pss_one (ps_dput hu (pv 2) (pv 6) (pe_cmpR op_eq (pv 4) pe_str (nomark _)) rfl)) pss_nil)))))))
      (pssn_one (psn (ps_ret (pv 3)))))), ?_⟩
    refine fun th hth => ⟨by show 0 ≤ sizeLine; decide, fun fd' hfd => ⟨_, _, rfl, ?_⟩⟩
    obtain ⟨H1, z1⟩ : ∃ H', H' = upd H th (.dK []) := ⟨_, rfl⟩
    rw [← z1] at hfd ⊢
    obtain ⟨H2, z2⟩ : ∃ H', H' = upd H1 fd' (.lst []) := ⟨_, rfl⟩
    rw [← z2]
    have k1 : Ext H H1 := by rw [z1]; exact Ext.refl.new hth
    have k2 : Ext H1 H2 := by rw [z2]; exact Ext.refl.new hfd
    have k02 := k1.trans k2
    have th1 : H1 th = some (.dK []) := by rw [z1, upd_same]
    have ntf : th ≠ fd' := ne_of_none th1 hfd
    have nfd : H fd' = none := by
      cases e : H fd' with
      | none => rfl
      | some o => rw [k1 _ _ e] at hfd; cases hfd
    refine ⟨_, rfl, dl, rfl, ⟨_, SqL.of (k02 _ _ hdl)⟩, for_list (xs := ps.map V.ref) (fun i σ H' => ∃ u4 u5 u6 u7 kvs, σ = [some (.ref fo), some (.ref dl), some (.ref th), some (.ref fd'), u4, u5, u6, u7] ∧ H' th = some (.dK kvs) ∧ kvs.length ≤ i ∧ KT kvs (endS (dfs s1 s2 s3) noneS (ds.take i)) ∧ H' fd' = some (.lst ((walkS (dfs s1 s2 s3) noneS (ds.take i)).map V.bl)) ∧ Ext H H')
      ⟨_, _, _, _, [], rfl, k2 _ _ th1, Nat.le_refl _, fun g => rfl, by rw [z2, upd_same]; rfl, k02⟩ (fun i σ H' _ p => by
      obtain ⟨_, _, _, _, _, _, _, _, _, _, k⟩ := p
      exact SqL.of (k _ _ hdl)) ?_ ?_⟩
    · rintro i x0 σ H3 hx ⟨u4, u5, u6, u7, kvs, rfl, hth3, hkl, kt, hfd3, k3⟩
      rw [List.getElem?_map] at hx
      obtain ⟨p, hp, rfl⟩ := Option.map_eq_some_iff.mp hx
      obtain ⟨d, hd, hpd, gd⟩ := (al.ext k3).get hp
      obtain ⟨dn, l⟩ := d
      have hi : i < 100 := by
        have := (List.getElem?_eq_some_iff.mp hd).1
        omega
      obtain ⟨T0, eT⟩ : ∃ T0, T0 = endS (dfs s1 s2 s3) noneS (ds.take i) := ⟨_, rfl⟩
      rw [← eT] at kt
      have ew := walk_take (fs := dfs s1 s2 s3) hd
      have ee := end_take (fs := dfs s1 s2 s3) hd
      rw [← eT] at ew ee
      obtain ⟨ws, ews⟩ : ∃ ws, ws = walkS (dfs s1 s2 s3) noneS (ds.take i) := ⟨_, rfl⟩
      rw [← ews] at hfd3 ew
      have lws : ws.length ≤ 100 := by rw [ews, walk_len, List.length_take]; omega
      refine ⟨p, _, rfl, hpd, rfl, _, _, rfl, _, _, rfl, rfl, ?_⟩
      -- the form
      obtain ⟨j, ej, hj, ef, j0, j1, j2⟩ := nmIx dn
      refine ⟨_, rfl, by show 3 ≤ sizeLine; decide, fun ix hix => ?_⟩
      obtain ⟨H4, z4⟩ : ∃ H', H' = upd H3 ix (.lst [.str "put", .str "find", .str "strike"]) := ⟨_, rfl⟩
      rw [← z4]
      have k4 : Ext H3 H4 := by rw [z4]; exact Ext.refl.new hix
      have ix4 : H4 ix = some (.lst [.str "put", .str "find", .str "strike"]) := by rw [z4, upd_same]
      refine ⟨.inl ⟨rfl, _, SqL.of ix4⟩, _, rfl, ix, _, _, j, _, rfl, rfl, SqL.of ix4, rfl, rfl, ej, beq_self_eq_true _, ef, ?_⟩
      obtain ⟨r1, r2, r3, r4, t1, t2, t3, t4, ers, etw, R1, R2, R3, R4, b1, b2, b3, b4⟩ := fourB_parts F0
      injection etw with q1 etw
      injection etw with q2 etw
      injection etw with q3 etw
      have sel : ∃ r, atI (rs.map V.ref) ((j : Nat) : Int) = some (.ref r) ∧ RowB K n H r (dfs s1 s2 s3 dn) := by
        rw [ers]
        cases dn with
        | put => rw [j0 rfl]; exact ⟨r1, rfl, by rw [show dfs s1 s2 s3 Dr.put = t1 from q1]; exact R1⟩
        | find => rw [j1 rfl]; exact ⟨r2, rfl, by rw [show dfs s1 s2 s3 Dr.find = t2 from q2]; exact R2⟩
        | strike => rw [j2 rfl]; exact ⟨r3, rfl, by rw [show dfs s1 s2 s3 Dr.strike = t3 from q3]; exact R3⟩
      obtain ⟨r, eat, RB⟩ := sel
      have k04 := k3.trans k4
      refine ⟨fo, _, j, _, rfl, rfl, SqL.of (k04 _ _ F0.1), eat, _, rfl, r, _, l, rfl, RB.ext k04, gd, fun H5 k5 => ?_⟩
      obtain ⟨f0, ef0⟩ : ∃ f0, f0 = mks (dfs s1 s2 s3 dn) l := ⟨_, rfl⟩
      rw [← ef0]
      have k35 := k4.trans k5
      have hth5 := k35 _ _ hth3
      have hfd5 := k35 _ _ hfd3
      -- known
      refine ⟨_, rfl, th, rfl, .inl ⟨kvs, .inl hth5⟩, _, rfl, _, DGet.k (k := .inr (S f0)) hth5, ?_⟩
      rw [kt f0]
      have np : decide (V.str dn.nm = V.str "put") = decide (dn = .put) := nm_eq dn .put
      have nf : decide (V.str dn.nm = V.str "find") = decide (dn = .find) := nm_eq dn .find
      have ea : ansS (dfs s1 s2 s3) T0 (dn, l) = if dn = .put then !T0 f0 else T0 f0 := by rw [ef0]; cases dn <;> rfl
      -- what comes behind the answer
      have go : ∀ (D : Ends) (v : Bool), v = ansS (dfs s1 s2 s3) T0 (dn, l) → (∀ σ' H', (∃ u4 u5 u6 u7 kvs, σ' = [some (.ref fo), some (.ref dl), some (.ref th), some (.ref fd'), u4, u5, u6, u7] ∧ H' th = some (.dK kvs) ∧ kvs.length ≤ i + 1 ∧ KT kvs (endS (dfs s1 s2 s3) noneS (ds.take (i + 1))) ∧ H' fd' = some (.lst ((walkS (dfs s1 s2 s3) noneS (ds.take (i + 1))).map V.bl)) ∧ Ext H H') → D.nx σ' H') →
          tIfS (tTest (tOp L2.rNe (tVar 4) (tC (.str "find")))) (sDPut (tVar 2) (tVar 6) (tOp L2.rEq (tVar 4) (tC (.str "put")))) tNext D [some (.ref fo), some (.ref dl), some (.ref th), some (.ref fd'), some (.str dn.nm), some (.str (S l)), some (.str (S f0)), some (.bl (T0 f0))] (upd H5 fd' (.lst (ws.map V.bl ++ [.bl v]))) := by
        intro D v hv hD
        obtain ⟨H6, z6⟩ : ∃ H', H' = upd H5 fd' (.lst (ws.map V.bl ++ [.bl v])) := ⟨_, rfl⟩
        rw [← z6]
        have hth6 : H6 th = some (.dK kvs) := by rw [z6, upd_ne ntf]; exact hth5
        have hfd6 : H6 fd' = some (.lst ((walkS (dfs s1 s2 s3) noneS (ds.take (i + 1))).map V.bl)) := by rw [z6, upd_same, ew, hv, List.map_append]; rfl
        have k06 : Ext H H6 := fun b o e => by
          rw [z6, upd_ne (by rintro rfl; rw [nfd] at e; cases e)]
          exact k35 _ _ (k3 _ _ e)
        refine ⟨_, rfl, rfl, _, rfl, ?_⟩
        show if (!decide (V.str dn.nm = V.str "find")) = true then _ else _
        rw [nf]
        by_cases z : dn = .find
        · rw [decide_eq_true z]
          refine iteF (hD _ _ ⟨_, _, _, _, kvs, rfl, hth6, by omega, ?_, hfd6, k06⟩)
          rw [ee]
          have : stepS (dfs s1 s2 s3) T0 (dn, l) = T0 := by subst z; rfl
          rw [this]; exact kt
        · rw [decide_eq_false z]
          refine iteT ⟨_, rfl, rfl, _, rfl, _, rfl, th, _, rfl, .inl ⟨kvs, .inr (S f0), hth6, rfl, by rw [sizeLine_eq]; omega, rfl⟩, hD _ _ ⟨_, _, _, _, _, rfl, upd_same, Nat.le_trans putK_len' (by omega), ?_, ?_, fun b o e => ?_⟩⟩
          · rw [ee, np]
            have e2 : stepS (dfs s1 s2 s3) T0 (dn, l) = fun g => if g = f0 then decide (dn = .put) else T0 g := by
              funext g
              rw [ef0]
              cases dn with
              | find => exact absurd rfl z
              | put =>
                show (T0 g || decide (g = mks s1 l)) = if g = mks s1 l then _ else _
                by_cases e : g = mks s1 l
                · rw [if_pos e, decide_eq_true e, Bool.or_true]; rfl
                · rw [if_neg e, decide_eq_false e, Bool.or_false]
              | strike =>
                show (decide (g ≠ mks s3 l) && T0 g) = if g = mks s3 l then _ else _
                by_cases e : g = mks s3 l
                · rw [if_pos e, decide_eq_false (fun h => h e)]; rfl
                · rw [if_neg e, decide_eq_true e]; rfl
            rw [e2]
            exact kt.put f0 _
          · rw [upd_ne (Ne.symm ntf)]; exact hfd6
          · have nth : b ≠ th := by
              rintro rfl
              rw [hth] at e; cases e
            rw [upd_ne nth]; exact k06 _ _ e
      refine ⟨_, rfl, .inl ⟨rfl, _, SqL.of hfd5⟩, _, rfl, rfl, _, rfl, ?_⟩
      show if (!decide (V.str dn.nm = V.str "put")) = true then _ else _
      rw [np]
      by_cases z : dn = .put
      · rw [decide_eq_true z]
        rw [if_pos z] at ea
        exact iteF ⟨_, rfl, _, rfl, fd', _, _, rfl, rfl, hfd5, by rw [List.length_map, sizeLine_eq]; omega, go _ (!T0 f0) ea.symm fun σ' H' h => h⟩
      · rw [decide_eq_false z]
        rw [if_neg z] at ea
        exact iteT ⟨_, rfl, fd', _, _, rfl, rfl, hfd5, by rw [List.length_map, sizeLine_eq]; omega, go _ (T0 f0) ea.symm fun σ' H' h => h⟩
    · rintro σ H3 ⟨u4, u5, u6, u7, kvs, rfl, hth3, hkl, kt, hfd3, k3⟩
      rw [List.length_map, al.len, List.take_length] at hfd3
      exact ⟨_, rfl, q fd' H3 nfd hfd3 k3⟩
end
end Pd

set_option maxHeartbeats 4000000
namespace Pd
open PySem PySem.Spec PyProof.Rows L2 SX
/-! ### doors there and back -/
def dts (d : Dr) (ts : List (List Nat)) : List Deed := ts.map fun t => (d, t)
theorem ans_dp {K : PySem.W.Frag} {H : Hp} : ∀ {bs : List Bool}, DpAll K H (bs.map V.bl) (bs.map PyData.bool)
  | [] => .nil
  | b :: bs => .cons (.bl b) ans_dp
theorem ans_shape {bs : List Bool} : SeqAt.shaped (.list (bs.map PyData.bool)) = true := by
  have key : PyData.canLayAll0 (bs.map PyData.bool) = true ∧ PyData.depthAll (bs.map PyData.bool) ≤ 0 := by
    induction bs with
    | nil => exact ⟨rfl, Nat.zero_le _⟩
    | cons b bs ih =>
      obtain ⟨h1, h2⟩ := ih
      refine ⟨?_, ?_⟩
      · rw [List.map_cons]; simp only [PyData.canLayAll0, PyData.canLay0, h1, Bool.and_self]
      · rw [List.map_cons]; simp only [PyData.depthAll, PyData.depth]; omega
  unfold SeqAt.shaped
  simp only [PyData.canLay0, PyData.depth, key.1, Bool.true_and]
  exact decide_eq_true (by have := key.2; omega)
theorem cutTo {xs : List V} {k : Int} (h : 0 ≤ k) : cutV xs none (some k) = xs.take k.toNat := by
  have ek : k = ((k.toNat : Nat) : Int) := by omega
  unfold cutV
  rw [ek, HT.sIx_nat, HT.sIx_none, List.drop_zero, Nat.sub_zero, Int.toNat_natCast]
  by_cases h : k.toNat ≤ xs.length
  · rw [Nat.min_eq_left h]
  · rw [Nat.min_eq_right (by omega), List.take_of_length_le (Nat.le_refl _), List.take_of_length_le (by omega)]
def spDRound (K : PySem.W.Frag) (n : Nat) : Sp := fun vs H Q _ => ∃ (fo u : Addr) (rs : List Addr) (rws : List (List Stp)) (ts : List (List Nat)), vs = [.ref fo, .ref u] ∧ FourB K n H fo rs rws ∧ H u = some (.lst (txV ts)) ∧ (∀ t ∈ ts, Good t) ∧ ts.length ≤ 20 ∧ ∀ H', Ext H H' → Q (.bl true) H'
section
variable {P : Program} {w : World} {K : PySem.W.Frag} {mg : Str → Option Value} {base : Heap}
theorem ok_dround {f Cf CD : Addr} {fd : FuncData} (n : Nat) (F : Fun K "_law_doors_round" "_law_doors_round" sLawDoorsRound f fd) (T : Nms mg) (ml : mg "list" = none) (ID : C8.InsC K CD) (Z : Fol P w K mg base Cf) (X : FolS P w K mg base Cf) (Y : Drs P w K mg base CD) (Y2 : DrQ2 P w K mg base Cf CD) (GL : Cl P w K mg base 3 "_law_doors_text" (spLDText K)) (GR : Cl P w K mg base 8 "read_doors" (spReadDT K Cf CD)) (GT : Cl P w K mg base 4 "doors_text" (spDText K Cf CD))
    (GS : Cl P w K mg base 3 "_law_same" (spSame K 2)) (GN : Cl P w K mg base 5 "answers" (spAnswers K Cf CD)) (GA : ClN P w K mg base 3 "_law_answers" (spLAnsw K)) : FnN n P w K mg base 9 f (spDRound K n) := by
  refine fnN_of F scLawDoorsRound (fun kV doc pm an cdv ct us hl => match us, hl with | [_, _], _ => rfl) (fun vs H Q E h => ?_) (fun cdv A outer s H vs Q E hr h => ?_)
  · obtain ⟨fo, u, rs, rws, ts, rfl, _⟩ := h
    rfl
  · obtain ⟨fo, u, rs, rws, ts, rfl, F0, hu, hg, hz, q⟩ := h
    have nd := scLawDoorsRound.nd
    obtain ⟨fi, fdi, M, FI, bI⟩ := Z.made
    obtain ⟨fj, fdj, MD, FJ, bJ⟩ := Y.made
    obtain ⟨g1, fd1, m1, F1, b1⟩ := Y.put
    obtain ⟨g2, fd2, m2, F2, b2⟩ := Y.find
    obtain ⟨g3, fd3, m3, F3, b3⟩ := Y.strike
    obtain ⟨g4, fd4, m4, F4, b4⟩ := Y.wish
    obtain ⟨gs, fds, ms, Fs, bs⟩ := X.steps
    have hr1 := hr.mono (show 1 ≤ 8 by decide)
    have hr5 := hr.mono (show 5 ≤ 8 by decide)
    refine ⟨_, PSsn.nox (pssn_cons (psn (ps_set (i := 2) nd rfl (Or.inl rfl) (pe_make MD FJ (hr.mono (by decide)) rfl Y.z.mgC bJ .nil pass0
          (pa_cons (pe_make M FI hr5 rfl Z.mgC bI .nil pass0 (pa_cons (pe_ix ix_list (pv 0) pe_int (fun _ _ => rfl)) pa_nil))
          (pa_cons (pe_make M FI hr5 rfl Z.mgC bI .nil pass0 (pa_cons (pe_ix ix_list (pv 0) pe_int (fun _ _ => rfl)) pa_nil))
          (pa_cons (pe_make M FI hr5 rfl Z.mgC bI .nil pass0 (pa_cons (pe_ix ix_list (pv 0) pe_int (fun _ _ => rfl)) pa_nil))
          (pa_cons (pe_make M FI hr5 rfl Z.mgC bI .nil pass0 (pa_cons (pe_ix ix_list (pv 0) pe_int (fun _ _ => rfl)) pa_nil)) pa_nil)))))))
      (pssn_cons (psn (ps_set (i := 3) nd rfl (Or.inl rfl) (pe_cl GL hr (by decide) rfl (pa_cons (pv 0) pa_nil))))
      (pssn_cons (psn (ps_set (i := 4) nd rfl (Or.inl rfl) (pe_cl GR hr (by decide) rfl (pa_cons (pv 3) pa_nil))))
      (pssn_cons (psn (ps_if (PW.pt (pw_or (pt_not (pt_val (pe_callB (C8.call_isC ID) (by rfl) T.isi (by decide +kernel) (pa_cons (pv 4) (pa_cons (pe_glob (v := .ref CD) rfl Y.z.mgC rfl) pa_nil)))))
          (pw_or (pt_not (pt_cmpR (op_eqDoors Y2 hr (by decide)) (pv 4) (pv 2) (nomark _)))
          (pw_or1 (pt_not (pt_val (pe_cl GS hr (by decide) rfl (pa_cons (pe_cl GT hr (by decide) rfl (pa_cons (pv 2) pa_nil)) (pa_cons (pv 3) pa_nil))))))))) pss_never pss_nil))
      (pssn_cons (psn (ps_set (i := 5) nd rfl (Or.inl rfl) (pe_lst (pa_cons (pe_meth0 (pv 4) Y.z.cl m1 F1 hr1 b1 .nil pass0) (pa_cons (pe_meth0 (pv 4) Y.z.cl m2 F2 hr1 b2 .nil pass0) (pa_cons (pe_meth0 (pv 4) Y.z.cl m3 F3 hr1 b3 .nil pass0) (pa_cons (pe_meth0 (pv 4) Y.z.cl m4 F4 hr1 b4 .nil pass0) pa_nil)))))))
      (pssn_cut (psn (ps_for PassesOwn.never rfl (pi_range1 rfl T.range (pa_cons pe_int pa_nil)) (pg_name (i := 6) nd rfl (Or.inl rfl))
        (pss_one (ps_if (pt_not (pt_val (pe_cl GS hr (by decide) rfl (pa_cons (pe_meth0 (pe_ix ix_list (pv 5) (pv 6) (fun _ _ => rfl)) X.cl ms Fs hr1 bs .nil pass0) (pa_cons (pe_ix ix_list (pv 0) (pv 6) (fun _ _ => rfl)) pa_nil))))) pss_never pss_nil))))
      (pssn_cut (psn (ps_set (i := 7) nd rfl (Or.inl rfl) (pe_op op_cat
          (pe_lc (own := [("text", 8)]) (g := gName 8) (tt := tYes) rfl nd (pi_list (pv 1)) (blkOk_by (N := ["four", "texts", "work", "due", "back", "told", "k", "deeds", "text"]) (sc := defScope sLawDoorsRound) (by decide +kernel)) (fun _ _ _ _ _ => pg_name (i := 8) nd rfl (Or.inl rfl)) (fun _ _ _ _ _ => pts_nil) (fun _ _ _ _ _ => pe_tup (pa_cons pe_str (pa_cons (pv 8) pa_nil))))
          (pe_lc (own := [("text", 8)]) (g := gName 8) (tt := tYes) rfl nd (pi_list (pv 1)) (blkOk_by (N := ["four", "texts", "work", "due", "back", "told", "k", "deeds", "text"]) (sc := defScope sLawDoorsRound) (by decide +kernel)) (fun _ _ _ _ _ => pg_name (i := 8) nd rfl (Or.inl rfl)) (fun _ _ _ _ _ => pts_nil) (fun _ _ _ _ _ => pe_tup (pa_cons pe_str (pa_cons (pv 8) pa_nil)))))))
      (pssn_cut (psn (ps_set (i := 7) nd rfl (Or.inl rfl) (pe_op op_cat (pe_op op_cat (pv 7)
          (pe_lc (own := [("text", 8)]) (g := gName 8) (tt := tYes) rfl nd (pi_list (pe_slice sl_list (pv 1) po_none (po_some pe_int))) (blkOk_by (N := ["four", "texts", "work", "due", "back", "told", "k", "deeds", "text"]) (sc := defScope sLawDoorsRound) (by decide +kernel)) (fun _ _ _ _ _ => pg_name (i := 8) nd rfl (Or.inl rfl)) (fun _ _ _ _ _ => pts_nil) (fun _ _ _ _ _ => pe_tup (pa_cons pe_str (pa_cons (pv 8) pa_nil)))))
          (pe_lc (own := [("text", 8)]) (g := gName 8) (tt := tYes) rfl nd (pi_list (pv 1)) (blkOk_by (N := ["four", "texts", "work", "due", "back", "told", "k", "deeds", "text"]) (sc := defScope sLawDoorsRound) (by decide +kernel)) (fun _ _ _ _ _ => pg_name (i := 8) nd rfl (Or.inl rfl)) (fun _ _ _ _ _ => pts_nil) (fun _ _ _ _ _ => pe_tup (pa_cons pe_str (pa_cons (pv 8) pa_nil)))))))
      (pssn_cons (psn_if (ptn_cmpR (op_neD hr.units) (pen (pe_cl GN hr (by decide) rfl (pa_cons (pv 4) (pa_cons (pe_callTy call_list_of (by rfl) ml (by decide +kernel) (pa_cons (pv 7) pa_nil)) pa_nil)))) (pen_clN GA hr (by decide) rfl (pan (pa_cons (pv 0) (pa_cons (pv 7) pa_nil)))) (nomark _)) (pssn pss_never) (pssn pss_nil))
      (pssn_one (psn (ps_ret (pe_and (pe_cl GS hr (by decide) rfl (pa_cons (pe_cl GT hr (by decide) rfl (pa_cons (pv 4) pa_nil)) (pa_cons (pv 3) pa_nil))) (pe_one (pe_cmpR (op_eqDoors Y2 hr (by decide)) (pe_cl GR hr (by decide) rfl (pa_cons (pe_cl GT hr (by decide) rfl (pa_cons (pv 2) pa_nil)) pa_nil)) (pv 4) (nomark _)))))))))))))))), ?_⟩
    obtain ⟨r1, r2, r3, r4, s1, s2, s3, s4, rfl, rfl, R1, R2, R3, R4, l1, l2, l3, l4⟩ := fourB_parts F0
    have hfo := F0.1
    have FR : Four K H fo [r1, r2, r3, r4] [s1, s2, s3, s4] := ⟨hfo, F0.2.1.rw, rfl⟩
    have dok : dofs [s1, s2, s3, s4] := FR.2.1.good
    have Q1 := R1.row
    have Q2 := R2.row
    have Q3 := R3.row
    have Q4 := R4.row
    -- the doors
    refine ⟨_, rfl, fo, _, 0, .ref r1, rfl, rfl, SqL.of hfo, rfl, fun x1 dx1 hx1 hdx1 ne1 => made_ask Q1 l1 hx1 hdx1 ne1 fun H1 W1 k1 => ⟨rfl, ?_⟩⟩
    refine ⟨_, rfl, fo, _, 1, .ref r2, rfl, rfl, SqL.of (k1 _ _ hfo), rfl, fun x2 dx2 hx2 hdx2 ne2 => made_ask (Q2.ext k1) l2 hx2 hdx2 ne2 fun H2 W2 k2 => ⟨rfl, ?_⟩⟩
    have k02 := k1.trans k2
    refine ⟨_, rfl, fo, _, 2, .ref r3, rfl, rfl, SqL.of (k02 _ _ hfo), rfl, fun x3 dx3 hx3 hdx3 ne3 => made_ask (Q3.ext k02) l3 hx3 hdx3 ne3 fun H3 W3 k3 => ⟨rfl, ?_⟩⟩
    have k03 := k02.trans k3
    refine ⟨_, rfl, fo, _, 3, .ref r4, rfl, rfl, SqL.of (k03 _ _ hfo), rfl, fun x4 dx4 hx4 hdx4 ne4 => made_ask (Q4.ext k03) l4 hx4 hdx4 ne4 fun H4 W4 k4 => ⟨rfl, ?_⟩⟩
    refine fun wd dx5 hx5 hdx5 ne5 => dmade_ask (((W1.ext k2).ext k3).ext k4) ((W2.ext k3).ext k4) (W3.ext k4) W4 hx5 hdx5 ne5 fun H5 D5 k5 => ⟨rfl, ?_⟩
    have k05 := (k03.trans k4).trans k5
    obtain ⟨gw, egw⟩ : ∃ gw : Dg, gw = ⟨x1, x2, x3, x4, r1, r2, r3, r4, s1, s2, s3, s4⟩ := ⟨_, rfl⟩
    replace D5 : DAt K Cf CD H5 wd gw := by rw [egw]; exact D5
    -- their text, and doors read from it
    refine ⟨_, rfl, fo, _, _, rfl, ⟨k05 _ _ hfo, FR.2.1.ext k05, rfl⟩, fun H6 k6 => ?_⟩
    refine ⟨_, rfl, s1, s2, s3, s4, rfl, dok, fun bd g H7 k7 B7 e1 e2 e3 e4 => ?_⟩
    have k57 := k6.trans k7
    have D7 := D5.ext k57
    obtain ⟨dxb, eb⟩ := B7.ins
    refine ⟨_, rfl, bd, dxb, _, rfl, eb, true, rfl, iteF ?_⟩
    refine ⟨_, rfl, _, rfl, bd, wd, g, gw, rfl, rfl, B7, D7, by rw [e1, egw], by rw [e2, egw], by rw [e3, egw], by rw [e4, egw], fun H8 k8 => ⟨true, rfl, iteF ?_⟩⟩
    have D8 := D7.ext k8
    have W8 : DrAt K Cf CD H8 wd x1 x2 x3 x4 r1 r2 r3 r4 s1 s2 s3 s4 := by rw [egw] at D8; exact D8
    refine ⟨_, rfl, wd, x1, x2, x3, x4, r1, r2, r3, r4, s1, s2, s3, s4, rfl, W8, fun H9 k9 => ?_⟩
    refine ⟨_, rfl, _, _, rfl, .str _, fun H10 k10 => ⟨true, rfl, iteF ?_⟩⟩
    have k710 := (k8.trans k9).trans k10
    have B10 := B7.ext k710
    have e10 := k710 _ _ eb
    -- the foldings told
    refine ⟨_, rfl, bd, dxb, _, rfl, e10, rfl, bd, dxb, _, _, rfl, e10, rfl, ?_⟩
    refine ⟨_, rfl, bd, dxb, _, rfl, e10, rfl, bd, dxb, _, _, rfl, e10, rfl, ?_⟩
    refine ⟨_, rfl, bd, dxb, _, rfl, e10, rfl, bd, dxb, _, _, rfl, e10, rfl, ?_⟩
    refine ⟨_, rfl, bd, dxb, _, rfl, e10, rfl, bd, dxb, _, _, rfl, e10, rfl, ?_⟩
    refine ⟨by show 4 ≤ sizeLine; decide, fun td htd => ?_⟩
    obtain ⟨H11, z11⟩ : ∃ H', H' = L2.upd H10 td (.lst [.ref g.o1, .ref g.o2, .ref g.o3, .ref g.o4]) := ⟨_, rfl⟩
    have et : H11 td = some (.lst [.ref g.o1, .ref g.o2, .ref g.o3, .ref g.o4]) := by rw [z11, upd_same]
    have k11 : Ext H10 H11 := by rw [z11]; exact Ext.refl.new htd
    have k011 : Ext H H11 := ((k05.trans k57).trans k710).trans k11
    rw [show L2.upd H10 td (HO.lst [V.ref g.o1, V.ref g.o2, V.ref g.o3, V.ref g.o4]) = H11 from z11.symm]
    have B11 := B10.ext k11
    have f11 : Fds K Cf H11 [g.o1, g.o2, g.o3, g.o4] [g.r1, g.r2, g.r3, g.r4] [g.s1, g.s2, g.s3, g.s4] := DrAt.fds B11
    rw [e1, e2, e3, e4] at f11
    refine ⟨fun σ' H' => ∃ u6, σ' = [some (.ref fo), some (.ref u), some (.ref wd), some (.str (S (dtext [s1, s2, s3, s4]))), some (.ref bd), some (.ref td), u6, none, none] ∧ Ext H11 H', ?_, ?_⟩
    · refine ⟨4, rfl, by decide, by decide, for_range (lo := 0) (n := 4) (fun i σ H' => ∃ u6, σ = [some (.ref fo), some (.ref u), some (.ref wd), some (.str (S (dtext [s1, s2, s3, s4]))), some (.ref bd), some (.ref td), u6, none, none] ∧ Ext H11 H') ⟨_, rfl, .refl⟩ ?_ ?_⟩
      · rintro i σ H12 hi ⟨u6, rfl, k12⟩
        have ei : (0 : Int) + (i : Nat) = ((i : Nat) : Int) := by omega
        have ho : [g.o1, g.o2, g.o3, g.o4][i]? = some [g.o1, g.o2, g.o3, g.o4][i] := List.getElem?_eq_getElem (show i < 4 from hi)
        generalize [g.o1, g.o2, g.o3, g.o4][i] = o at ho
        obtain ⟨r', sts, hrr, hs, F2'⟩ := (f11.ext k12).get ho
        have eo : ([.ref g.o1, .ref g.o2, .ref g.o3, .ref g.o4] : List V)[i]? = some (.ref o) := by
          have z : ([g.o1, g.o2, g.o3, g.o4].map V.ref)[i]? = some (.ref o) := by rw [List.getElem?_map, ho]; rfl
          exact z
        have hr0 : [r1, r2, r3, r4][i]? = some [r1, r2, r3, r4][i] := List.getElem?_eq_getElem (show i < 4 from hi)
        generalize [r1, r2, r3, r4][i] = r at hr0
        have er : ([r1, r2, r3, r4].map V.ref)[i]? = some (.ref r) := by rw [List.getElem?_map, hr0]; rfl
        obtain ⟨sts', hs', RA, h6⟩ := FR.2.1.get hr0
        rw [hs] at hs'
        cases hs'
        obtain ⟨⟨dx2', e2'⟩, R2', _⟩ := id F2'
        have k012 := k011.trans k12
        refine ⟨_, rfl, _, rfl, td, _, i, .ref o, rfl, congrArg V.int ei, SqL.of (k12 td _ et), atI_nat eo, o, dx2', _, rfl, e2', rfl, o, r', sts, rfl, F2', ?_⟩
        refine ⟨_, rfl, _, rfl, fo, _, i, .ref r, rfl, congrArg V.int ei, SqL.of (k012 fo _ hfo), atI_nat er, ?_⟩
        exact ⟨_, _, rfl, sm_row2 R2' (RA.ext k012) h6, fun H13 k13 => ⟨true, rfl, iteF ⟨_, rfl, k12.trans k13⟩⟩⟩
      · rintro σ H12 ⟨u6, rfl, k12⟩
        exact ⟨_, rfl, k12⟩
    rintro σ12 H12 ⟨u6, rfl, k12⟩
    have k012 := k011.trans k12
    have hu12 := k012 _ _ hu
    -- the deeds
    refine ⟨fun σ' H' => ∃ dq ps, σ' = [some (.ref fo), some (.ref u), some (.ref wd), some (.str (S (dtext [s1, s2, s3, s4]))), some (.ref bd), some (.ref td), u6, some (.ref dq), none] ∧ H' dq = some (.lst (ps.map V.ref)) ∧ DAl K H' ps (dts .put ts ++ dts .find ts) ∧ Ext H12 H', ?_, ?_⟩
    · refine ⟨_, rfl, u, rfl, ⟨_, SqL.of hu12⟩, fun DA hDA => ?_⟩
      refine lc_it (walk_list (xs := txV ts)) (fun k H' => ∃ qs, H' DA = some (.lst (qs.map V.ref)) ∧ DAl K H' qs (dts .put (ts.take k)) ∧ Ext H12 H') ⟨[], by rw [upd_same]; rfl, .nil, Ext.refl.new hDA⟩ (fun k H' _ z => by
        obtain ⟨_, _, _, k⟩ := z
        exact SqL.of (k _ _ hu12)) ?_ ?_
      · rintro k x0 Ha Hb hk ⟨qs, hD2, al2, k2'⟩ ⟨rfl, hx⟩
        unfold txV at hx
        rw [List.getElem?_map] at hx
        obtain ⟨t', ht', rfl⟩ := Option.map_eq_some_iff.mp hx
        refine ⟨rfl, _, rfl, by show 2 ≤ sizeLine; decide, fun p hp => ?_⟩
        have kp : Ext Hb (upd Hb p (.tup [.str "put", .str (S t')])) := Ext.refl.new hp
        have lq : qs.length ≤ 20 := by
          have h1 := al2.len
          unfold dts at h1
          rw [List.length_map, List.length_take] at h1
          omega
        refine ⟨_, kp _ _ hD2, by rw [List.length_map, sizeLine_eq]; omega, qs ++ [p], by rw [upd_same, List.map_append]; rfl, ?_, (k2'.trans kp).new hDA⟩
        have kD : Kp DA (upd Hb p (.tup [.str "put", .str (S t')])) (upd (upd Hb p (.tup [.str "put", .str (S t')])) DA (.lst (qs.map V.ref ++ [.ref p]))) := .upd
        have e : dts .put (ts.take (k + 1)) = dts .put (ts.take k) ++ [(.put, t')] := by
          unfold dts
          rw [List.take_add_one, ht', List.map_append]; rfl
        rw [e]
        exact (DAl.kp kD (kp _ _ hD2) (al2.ext kp)).snoc (sqT_noLst (SqT.of upd_same) kD (kp _ _ hD2)) (hg _ (List.mem_of_getElem? ht'))
      rintro H13 ⟨q1, hDA', al1, k13⟩
      rw [show (txV ts).length = ts.length from List.length_map _, List.take_length] at al1
      have hu13 := k13 _ _ hu12
      refine ⟨_, rfl, u, rfl, ⟨_, SqL.of hu13⟩, fun DB hDB => ?_⟩
      refine lc_it (walk_list (xs := txV ts)) (fun k H' => ∃ qs, H' DB = some (.lst (qs.map V.ref)) ∧ DAl K H' qs (dts .find (ts.take k)) ∧ Ext H13 H') ⟨[], by rw [upd_same]; rfl, .nil, Ext.refl.new hDB⟩ (fun k H' _ z => by
        obtain ⟨_, _, _, k⟩ := z
        exact SqL.of (k _ _ hu13)) ?_ ?_
      · rintro k x0 Ha Hb hk ⟨qs, hD2, al2, k2'⟩ ⟨rfl, hx⟩
        unfold txV at hx
        rw [List.getElem?_map] at hx
        obtain ⟨t', ht', rfl⟩ := Option.map_eq_some_iff.mp hx
        refine ⟨rfl, _, rfl, by show 2 ≤ sizeLine; decide, fun p hp => ?_⟩
        have kp : Ext Hb (upd Hb p (.tup [.str "find", .str (S t')])) := Ext.refl.new hp
        have lq : qs.length ≤ 20 := by
          have h1 := al2.len
          unfold dts at h1
          rw [List.length_map, List.length_take] at h1
          omega
        refine ⟨_, kp _ _ hD2, by rw [List.length_map, sizeLine_eq]; omega, qs ++ [p], by rw [upd_same, List.map_append]; rfl, ?_, (k2'.trans kp).new hDB⟩
        have kD : Kp DB (upd Hb p (.tup [.str "find", .str (S t')])) (upd (upd Hb p (.tup [.str "find", .str (S t')])) DB (.lst (qs.map V.ref ++ [.ref p]))) := .upd
        have e : dts .find (ts.take (k + 1)) = dts .find (ts.take k) ++ [(.find, t')] := by
          unfold dts
          rw [List.take_add_one, ht', List.map_append]; rfl
        rw [e]
        exact (DAl.kp kD (kp _ _ hD2) (al2.ext kp)).snoc (sqT_noLst (SqT.of upd_same) kD (kp _ _ hD2)) (hg _ (List.mem_of_getElem? ht'))
      rintro H14 ⟨q2, hDB', al2, k14⟩
      rw [show (txV ts).length = ts.length from List.length_map _, List.take_length] at al2
      have e1' := k14 _ _ hDA'
      have n1 := al1.len
      have n2 := al2.len
      unfold dts at n1 n2
      rw [List.length_map] at n1 n2
      refine ⟨DA, DB, _, _, rfl, rfl, e1', hDB', by rw [List.length_map, List.length_map, sizeLine_eq]; omega, fun dq hdq => ?_⟩
      have k15 : Ext H14 (upd H14 dq (.lst (q1.map V.ref ++ q2.map V.ref))) := Ext.refl.new hdq
      exact ⟨dq, q1 ++ q2, rfl, by rw [upd_same, List.map_append], ((al1.ext k14).ext k15).append (al2.ext k15), (k13.trans k14).trans k15⟩
    rintro σ15 H15 ⟨dq, q12, rfl, hdq, al12, k15⟩
    have hu15 := k15 _ _ hu12
    refine ⟨fun σ' H' => ∃ dr ps, σ' = [some (.ref fo), some (.ref u), some (.ref wd), some (.str (S (dtext [s1, s2, s3, s4]))), some (.ref bd), some (.ref td), u6, some (.ref dr), none] ∧ H' dr = some (.lst (ps.map V.ref)) ∧ DAl K H' ps ((dts .put ts ++ dts .find ts) ++ dts .strike (ts.take 2) ++ dts .find ts) ∧ Ext H15 H', ?_, ?_⟩
    · refine ⟨_, rfl, _, rfl, 2, rfl, u, _, rfl, SqL.of hu15, fun sl hsl => ?_⟩
      rw [cutTo (by decide), show (2 : Int).toNat = 2 from rfl, show (txV ts).take 2 = txV (ts.take 2) from (List.map_take ..).symm]
      obtain ⟨Hs, zs⟩ : ∃ H', H' = upd H15 sl (.lst (txV (ts.take 2))) := ⟨_, rfl⟩
      rw [← zs]
      have ks : Ext H15 Hs := by rw [zs]; exact Ext.refl.new hsl
      have hsl' : Hs sl = some (.lst (txV (ts.take 2))) := by rw [zs, upd_same]
      obtain ⟨t2, et2⟩ : ∃ t2, t2 = ts.take 2 := ⟨_, rfl⟩
      have hg2 : ∀ t ∈ t2, Good t := fun t h => by rw [et2] at h; exact hg t (List.mem_of_mem_take h)
      have l2 : t2.length ≤ 20 := by rw [et2, List.length_take]; omega
      rw [← et2] at hsl' ⊢
      refine ⟨sl, rfl, ⟨_, SqL.of hsl'⟩, fun DC hDC => ?_⟩
      refine lc_it (walk_list (xs := txV t2)) (fun k H' => ∃ qs, H' DC = some (.lst (qs.map V.ref)) ∧ DAl K H' qs (dts .strike (t2.take k)) ∧ Ext Hs H') ⟨[], by rw [upd_same]; rfl, .nil, Ext.refl.new hDC⟩ (fun k H' _ z => by
        obtain ⟨_, _, _, k⟩ := z
        exact SqL.of (k _ _ hsl')) ?_ ?_
      · rintro k x0 Ha Hb hk ⟨qs, hD2, al2, k2'⟩ ⟨rfl, hx⟩
        unfold txV at hx
        rw [List.getElem?_map] at hx
        obtain ⟨t', ht', rfl⟩ := Option.map_eq_some_iff.mp hx
        refine ⟨rfl, _, rfl, by show 2 ≤ sizeLine; decide, fun p hp => ?_⟩
        have kp : Ext Hb (upd Hb p (.tup [.str "strike", .str (S t')])) := Ext.refl.new hp
        have lq : qs.length ≤ 20 := by
          have h1 := al2.len
          unfold dts at h1
          rw [List.length_map, List.length_take] at h1
          omega
        refine ⟨_, kp _ _ hD2, by rw [List.length_map, sizeLine_eq]; omega, qs ++ [p], by rw [upd_same, List.map_append]; rfl, ?_, (k2'.trans kp).new hDC⟩
        have kD : Kp DC (upd Hb p (.tup [.str "strike", .str (S t')])) (upd (upd Hb p (.tup [.str "strike", .str (S t')])) DC (.lst (qs.map V.ref ++ [.ref p]))) := .upd
        have e : dts .strike (t2.take (k + 1)) = dts .strike (t2.take k) ++ [(.strike, t')] := by
          unfold dts
          rw [List.take_add_one, ht', List.map_append]; rfl
        rw [e]
        exact (DAl.kp kD (kp _ _ hD2) (al2.ext kp)).snoc (sqT_noLst (SqT.of upd_same) kD (kp _ _ hD2)) (hg2 _ (List.mem_of_getElem? ht'))
      rintro H16 ⟨q3, hDC', al3, k16⟩
      rw [show (txV t2).length = t2.length from List.length_map _, List.take_length] at al3
      have k516 := ks.trans k16
      have n12 := al12.len
      have n3 := al3.len
      unfold dts at n12 n3
      rw [List.length_append, List.length_map, List.length_map] at n12
      rw [List.length_map] at n3
      refine ⟨dq, DC, _, _, rfl, rfl, k516 _ _ hdq, hDC', by rw [List.length_map, List.length_map, sizeLine_eq]; omega, fun p1 hp1 => ?_⟩
      obtain ⟨H17, z17⟩ : ∃ H', H' = upd H16 p1 (.lst (q12.map V.ref ++ q3.map V.ref)) := ⟨_, rfl⟩
      rw [← z17]
      have k17 : Ext H16 H17 := by rw [z17]; exact Ext.refl.new hp1
      have hp17 : H17 p1 = some (.lst (q12.map V.ref ++ q3.map V.ref)) := by rw [z17, upd_same]
      have k517 := k516.trans k17
      have hu17 := k517 _ _ hu15
      refine ⟨_, rfl, u, rfl, ⟨_, SqL.of hu17⟩, fun DD hDD => ?_⟩
      refine lc_it (walk_list (xs := txV ts)) (fun k H' => ∃ qs, H' DD = some (.lst (qs.map V.ref)) ∧ DAl K H' qs (dts .find (ts.take k)) ∧ Ext H17 H') ⟨[], by rw [upd_same]; rfl, .nil, Ext.refl.new hDD⟩ (fun k H' _ z => by
        obtain ⟨_, _, _, k⟩ := z
        exact SqL.of (k _ _ hu17)) ?_ ?_
      · rintro k x0 Ha Hb hk ⟨qs, hD2, al2, k2'⟩ ⟨rfl, hx⟩
        unfold txV at hx
        rw [List.getElem?_map] at hx
        obtain ⟨t', ht', rfl⟩ := Option.map_eq_some_iff.mp hx
        refine ⟨rfl, _, rfl, by show 2 ≤ sizeLine; decide, fun p hp => ?_⟩
        have kp : Ext Hb (upd Hb p (.tup [.str "find", .str (S t')])) := Ext.refl.new hp
        have lq : qs.length ≤ 20 := by
          have h1 := al2.len
          unfold dts at h1
          rw [List.length_map, List.length_take] at h1
          omega
        refine ⟨_, kp _ _ hD2, by rw [List.length_map, sizeLine_eq]; omega, qs ++ [p], by rw [upd_same, List.map_append]; rfl, ?_, (k2'.trans kp).new hDD⟩
        have kD : Kp DD (upd Hb p (.tup [.str "find", .str (S t')])) (upd (upd Hb p (.tup [.str "find", .str (S t')])) DD (.lst (qs.map V.ref ++ [.ref p]))) := .upd
        have e : dts .find (ts.take (k + 1)) = dts .find (ts.take k) ++ [(.find, t')] := by
          unfold dts
          rw [List.take_add_one, ht', List.map_append]; rfl
        rw [e]
        exact (DAl.kp kD (kp _ _ hD2) (al2.ext kp)).snoc (sqT_noLst (SqT.of upd_same) kD (kp _ _ hD2)) (hg _ (List.mem_of_getElem? ht'))
      rintro H18 ⟨q4, hDD', al4, k18⟩
      rw [show (txV ts).length = ts.length from List.length_map _, List.take_length] at al4
      have n4 := al4.len
      unfold dts at n4
      rw [List.length_map] at n4
      refine ⟨p1, DD, _, _, rfl, rfl, k18 _ _ hp17, hDD', by rw [List.length_append, List.length_map, List.length_map, List.length_map, sizeLine_eq]; omega, fun dr hdr => ?_⟩
      have k19 : Ext H18 (upd H18 dr (.lst (q12.map V.ref ++ q3.map V.ref ++ q4.map V.ref))) := Ext.refl.new hdr
      have k518 := k517.trans k18
      exact ⟨dr, q12 ++ q3 ++ q4, rfl, by rw [upd_same, List.map_append, List.map_append], (((al12.ext k518).ext k19).append (((al3.ext k17).ext k18).ext k19)).append (al4.ext k19), k518.trans k19⟩
    rintro σ16 H16 ⟨dr, q16, rfl, hdr, al16, k16⟩
    obtain ⟨ds, eds⟩ : ∃ ds, ds = dts .put ts ++ dts .find ts ++ dts .strike (ts.take 2) ++ dts .find ts := ⟨_, rfl⟩
    rw [← eds] at al16
    have lds : ds.length ≤ 100 := by
      rw [eds]; unfold dts
      rw [List.length_append, List.length_append, List.length_append, List.length_map, List.length_map, List.length_map, List.length_take]; omega
    have lq : q16.length ≤ 100 := by rw [al16.len]; exact lds
    have k1116 := (k12.trans k15).trans k16
    have k016 := k011.trans k1116
    have B16 := B11.ext k1116
    -- the answers
    refine ⟨_, rfl, _, rfl, dr, _, rfl, .inl (SqL.of hdr), fun la hla => ?_⟩
    obtain ⟨H17, z17⟩ : ∃ H', H' = upd H16 la (.lst (q16.map V.ref)) := ⟨_, rfl⟩
    rw [← z17]
    have k17 : Ext H16 H17 := by rw [z17]; exact Ext.refl.new hla
    refine ⟨bd, la, q16, ds, _, _, _, _, _, _, _, _, _, _, _, _, rfl, B16.ext k17, by rw [z17, upd_same], al16.ext k17, by omega, fun tt H18 htt htt' k18 => ?_⟩
    rw [e1, e2, e3] at htt'
    have k1618 := k17.trans k18
    have k018 := k016.trans k1618
    refine ⟨_, rfl, _, rfl, fo, dr, _, s1, s2, s3, s4, q16, ds, rfl, ⟨k018 _ _ F0.1, F0.2.1.ext k018, rfl⟩, k1618 _ _ hdr, al16.ext k1618, lds, fun tv H19 htv htv' k19 => ?_⟩
    refine ⟨.list ((walkS (dfs s1 s2 s3) noneS ds).map PyData.bool), .list ((walkS (dfs s1 s2 s3) noneS ds).map PyData.bool), .lst (SqL.of (k19 _ _ htt')) ans_dp, .lst (SqL.of htv') ans_dp, ans_shape, ans_shape, ?_⟩
    rw [SeqAt.eqv_refl _ (SeqAt.canLay_of_shaped ans_shape)]
    refine ⟨_, rfl, iteF ?_⟩
    -- the texts
    have B19 := (B16.ext k1618).ext k19
    have BD : DrAt K Cf CD H19 bd g.o1 g.o2 g.o3 g.o4 g.r1 g.r2 g.r3 g.r4 s1 s2 s3 s4 := by
      have z := B19
      unfold DAt at z
      rw [e1, e2, e3, e4] at z
      exact z
    have W19 : DrAt K Cf CD H19 wd x1 x2 x3 x4 r1 r2 r3 r4 s1 s2 s3 s4 := (((((W8.ext k9).ext k10).ext k11).ext k1116).ext k1618).ext k19
    refine ⟨_, rfl, bd, _, _, _, _, _, _, _, _, s1, s2, s3, s4, rfl, BD, fun H20 k20 => ?_⟩
    refine ⟨_, rfl, _, _, rfl, .str _, fun H21 k21 => ⟨true, rfl, iteT ?_⟩⟩
    have k1921 := k20.trans k21
    refine ⟨_, rfl, wd, x1, x2, x3, x4, r1, r2, r3, r4, s1, s2, s3, s4, rfl, W19.ext k1921, fun H22 k22 => ?_⟩
    refine ⟨s1, s2, s3, s4, rfl, dok, fun bd2 g2 H23 k23 B23 f1 f2 f3 f4 => ?_⟩
    have k1923 := (k1921.trans k22).trans k23
    exact ⟨_, rfl, bd2, bd, g2, g, rfl, rfl, B23, B19.ext k1923, by rw [f1, e1], by rw [f2, e2], by rw [f3, e3], by rw [f4, e4], fun H24 k24 => q H24 (((k018.trans k19).trans k1923).trans k24)⟩
end
end Pd

set_option maxHeartbeats 4000000
namespace Pd
open PySem PySem.Spec PyProof.Rows L2 SX
def spLaw (K : PySem.W.Frag) : Sp := fun vs H Q _ => ∃ (a : Addr) (ns : List Int), vs = [.ref a] ∧ SqL K H a (ns.map V.int) ∧ ns.length ≤ 63 ∧ ∀ H', Q (.bl true) H'
theorem FourB.kp' {K : PySem.W.Frag} {b : Nat} {H H' : Hp} {l j : Addr} {rs : List Addr} {rws : List (List Stp)} {ys : List V} (h : FourB K b H l rs rws) (k : Kp j H H') (hj : H j = some (.lst ys)) (n : l ≠ j) : FourB K b H' l rs rws := ⟨k _ _ n h.1, h.2.1.kp hj k, h.2.2⟩
theorem FourB.ext' {K : PySem.W.Frag} {b : Nat} {H H' : Hp} {l : Addr} {rs : List Addr} {rws : List (List Stp)} (h : FourB K b H l rs rws) (k : Ext H H') : FourB K b H' l rs rws := ⟨k _ _ h.1, h.2.1.ext k, h.2.2⟩
def outB (t : TSB) : TS := fun D σ H => t { nx := fun _ => D.nx, rt := fun _ => D.rt, bk := fun _ => D.bk, ct := fun _ => D.ct } 0 σ H
theorem pss_ofB {X : Cx} {sts : List Stmt} {t : TSB} (h : PSsB X sts t) : PSs X sts (outB t) :=
  ⟨fun pins s σ H D I q => wpAny_mono (h.run pins s σ H _ 0 (Nat.zero_le _) I q) (fun f s' ⟨b, _, z⟩ => by cases f <;> exact z) fun _ _ z => z⟩
section
variable {P : Program} {w : World} {K : PySem.W.Frag} {mg : Str → Option Value} {base : Heap}
theorem ok_law {f : Addr} {fd : FuncData} (F : Fun K "law" "law" sLaw f fd) (T : Nms mg) (G1 : Cl P w K mg base 1 "_law_well" (spJar K)) (G2 : Cl P w K mg base 2 "_law_pool" spPool) (GU : ClB P w K mg base 5 "_law_doors" (spUdoors K)) (GX : Cl P w K mg base 3 "_law_text" spTxt)
    (GDR : ClN P w K mg base 9 "_law_doors_round" (spDRound K)) (GR : ClN P w K mg base 7 "_law_round" (spRound K)) (GP : Cl P w K mg base 7 "_law_parts" (spParts K)) : FnOk P w K mg base CX0 10 f fd ["script"] (spLaw K) := by
  refine F.ok scLaw (fun vs H Q E h => ?_) (fun cdv A outer s H vs Q E hr h => ?_)
  · obtain ⟨a, ns, rfl, _⟩ := h
    rfl
  · obtain ⟨a, ns, rfl, hS, hlen, q⟩ := h
    have nd := scLaw.nd
    refine ⟨_, pss_cons (ps_for PassesOwn.never rfl (pi_range1 rfl T.range (pa_cons (pe_callB (call_max2 rfl) (by rfl) T.max (by decide +kernel) (pa_cons pe_int (pa_cons (pe_callB call_len_seq (by rfl) T.len PySem.boot_len (pa_cons (pv 0) pa_nil)) pa_nil))) pa_nil)) (pg_name (i := 1) nd rfl (Or.inl rfl))
        (pss_cons (ps_set (i := 2) nd rfl (Or.inl rfl) (pe_cl G1 hr (by decide) rfl (pa_cons (pv 0) (pa_cons (pv 1) pa_nil))))
        (pss_cons (ps_set (i := 3) nd rfl (Or.inl rfl) (pe_cl G2 hr (by decide) rfl (pa_cons (pv 2) pa_nil)))
        (pss_ofB (pssb_cons (psb_set (i := 4) nd rfl (Or.inl rfl) (peb_clB GU hr (by decide) rfl (pa_cons (pv 2) (pa_cons (pv 3) pa_nil))))
        (pssb fun n => pssn_cons (psn (ps_set (i := 5) nd rfl (Or.inl rfl) (pe_lst pa_nil)))
          (pssn_cut (psn (ps_for PassesOwn.never rfl (pi_range1 rfl T.range (pa_cons pe_int pa_nil)) (pg_name (i := 6) nd rfl (Or.inl rfl))
            (pss_one (ps_expr (pe_bm PySem.F.plainAttrs_list PySem.F.slot_list_append PySem.F.type_list_append mt_append (pv 5) (pa_cons (pe_cl GX hr (by decide) rfl (pa_cons (pv 2) (pa_cons (pv 3) (pa_cons (pv 5) pa_nil)))) pa_nil))))))
          (pssn_cons (psn_if (ptn_not (ptn_val (pen_clN GDR hr (by decide) rfl (pan (pa_cons (pv 4) (pa_cons (pv 5) pa_nil)))))) (pssn pss_never) (pssn pss_nil))
          (pssn_one (psn_for PassesOwn.never rfl (pi_list (pv 4)) (pg_name (i := 7) nd rfl (Or.inl rfl))
            (pssn_one (psn_if (PWn.ptn (pwn_or (ptn_not (ptn_val (pen_clN GR hr (by decide) rfl (pan (pa_cons (pv 7) (pa_cons (pv 5) pa_nil))))))
              (pwn_or1 (ptn (pt_not (pt_val (pe_cl GP hr (by decide) rfl (pa_cons (pv 7) (pa_cons (pe_ix ix_list (pv 4) pe_int (fun _ _ => rfl)) pa_nil))))))))) (pssn pss_never) (pssn pss_nil)))))))))))))
      (pss_one (ps_ret pe_bl)), ?_⟩
    refine ⟨_, rfl, a, _, rfl, .inl hS, _, _, rfl, ?_⟩
    rw [List.length_map]
    generalize hz : (if ((ns.length : Nat) : Int) > 1 then ((ns.length : Nat) : Int) else 1) = z
    have hz0 : 1 ≤ z := by rw [← hz]; split <;> omega
    have hz1 : z ≤ 63 := by rw [← hz]; split <;> omega
    refine ⟨z, rfl, by omega, by omega, ?_⟩
    refine for_range (lo := 0) (n := z.toNat) (fun i σ H' => ∃ u1 u2 u3 u4 u5 u6 u7, σ = [some (.ref a), u1, u2, u3, u4, u5, u6, u7] ∧ Ext H H') ⟨_, _, _, _, _, _, _, rfl, .refl⟩ ?_ ?_
    · rintro i σ H1 hi ⟨u1, u2, u3, u4, u5, u6, u7, rfl, k1⟩
      refine ⟨_, rfl, _, rfl, a, ns, 0 + (i : Nat), rfl, sqL_keep hS (fun o e => k1 a o e), hlen, by omega, by omega, fun j H2 nj J2 k2 => ?_⟩
      have k2 : Ext H1 H2 := k2
      refine ⟨_, rfl, j, 0, rfl, J2, by omega, fun l H3 hpl J3 k3 => ?_⟩
      refine ⟨_, rfl, _, rfl, j, 0 + 6, l, rfl, J3, hpl, by omega, fun b fo rs rws H4 nfo F4 J4 k4 => ?_⟩
      have J20 := J2.lst
      obtain ⟨xs2, hx2⟩ := J20
      have k24 : Kp j H2 H4 := k3.trans k4
      have k14 : Ext H1 H4 := ext_kp k2 k24 nj
      have hj4 : ∃ xs, H4 j = some (.lst xs) := J4.lst
      obtain ⟨xs4, hx4⟩ := hj4
      have nfoj : fo ≠ j := by
        obtain ⟨xs, e⟩ := J3.lst
        rintro rfl; rw [e] at nfo; cases nfo
      refine ⟨by show 0 ≤ sizeLine; decide, fun u hu => ?_⟩
      obtain ⟨H5, z5⟩ : ∃ H', H' = upd H4 u (.lst []) := ⟨_, rfl⟩
      rw [← z5]
      have k5 : Ext H4 H5 := by rw [z5]; exact Ext.refl.new hu
      have hu5 : H5 u = some (.lst []) := by rw [z5, upd_same]
      have nuj : u ≠ j := by rintro rfl; rw [hx4] at hu; cases hu
      have nuf : u ≠ fo := by rintro rfl; rw [F4.1] at hu; cases hu
      have hu1 : H1 u = none := by
        cases e : H1 u with
        | none => rfl
        | some o => rw [k14 _ _ e] at hu; cases hu
      refine ⟨fun σ' H' => ∃ u6 ts, σ' = [some (.ref a), some (.int (0 + (i : Nat))), some (.ref j), some (.str (S l)), some (.ref fo), some (.ref u), u6, u7] ∧ H' u = some (.lst (txV ts)) ∧ (∀ t ∈ ts, Good t) ∧ ts.length ≤ 3 ∧ FourB K b H' fo rs rws ∧ Ext H1 H', ?_, ?_⟩
      · refine ⟨3, rfl, by decide, by decide, for_range (lo := 0) (n := 3) (fun e σ H' => ∃ u6 ts, σ = [some (.ref a), some (.int (0 + (i : Nat))), some (.ref j), some (.str (S l)), some (.ref fo), some (.ref u), u6, u7] ∧ H' u = some (.lst (txV ts)) ∧ (∀ t ∈ ts, Good t) ∧ ts.length = e ∧ FourB K b H' fo rs rws ∧ JarAt H' j (3006 + 400 * e) ∧ Ext H1 H')
          ⟨_, [], rfl, hu5, (fun _ h => nomatch h), rfl, F4.ext' k5, (J4.ext k5).le (by omega), k14.trans k5⟩ ?_ ?_⟩
        · rintro e σ H6 he ⟨u6, ts, rfl, hu6, hg, le, F6, J6, k6⟩
          refine ⟨_, rfl, .inl ⟨rfl, _, SqL.of hu6⟩, _, rfl, _, rfl, _, rfl, j, u, _, l, ts, rfl, J6, hpl, hu6, hg, by omega, nuj, by omega, fun x H7 gx J7 k7 => ?_⟩
          replace k7 : Kp j H6 H7 := k7
          obtain ⟨xs6, hx6⟩ := J6.lst
          have hu7 := k7 _ _ nuj hu6
          have F7 := F6.kp' k7 hx6 nfoj
          refine ⟨u, _, _, rfl, rfl, hu7, by unfold txV; rw [List.length_map, sizeLine_eq]; omega, ?_⟩
          have kk : Kp u H7 (upd H7 u (.lst (txV ts ++ [.str (S x)]))) := .upd
          refine ⟨_, ts ++ [x], rfl, by rw [upd_same]; unfold txV; rw [List.map_append]; rfl, fun t ht => ?_, by rw [List.length_append, le]; rfl, F7.kp' kk hu7 (Ne.symm nuf), ?_, fun c o ec => ?_⟩
          · rcases List.mem_append.mp ht with h | h
            · exact hg t h
            · rw [List.mem_singleton.mp h]; exact gx
          · obtain ⟨a1, a2, a3, ej, rest⟩ := J7.le (m := 3006 + 400 * (e + 1)) (by omega)
            exact ⟨a1, a2, a3, kk _ _ (Ne.symm nuj) ej, rest⟩
          · have ncu : c ≠ u := by rintro rfl; rw [hu1] at ec; cases ec
            have ncj : c ≠ j := by rintro rfl; rw [nj] at ec; cases ec
            rw [upd_ne ncu]; exact k7 _ _ ncj (k6 _ _ ec)
        · rintro σ H6 ⟨u6, ts, rfl, hu6, hg, le, F6, J6, k6⟩
          exact ⟨_, ts, rfl, hu6, hg, by omega, F6, k6⟩
      rintro σ6 H6 ⟨u6', ts, rfl, hu6, hg, le, F6, k6⟩
      refine ⟨_, rfl, _, rfl, fo, u, rs, rws, ts, rfl, ⟨F6.1, F6.2.1.mono (Nat.le_max_right 0 b), F6.2.2⟩, hu6, hg, by omega, fun H7 k7 => ⟨true, rfl, iteF ?_⟩⟩
      have F7 := F6.ext' k7
      have hu7 := k7 _ _ hu6
      refine ⟨_, rfl, fo, rfl, ⟨_, SqL.of F7.1⟩, for_list (xs := rs.map V.ref) (fun e σ H' => ∃ u7', σ = [some (.ref a), some (.int (0 + (i : Nat))), some (.ref j), some (.str (S l)), some (.ref fo), some (.ref u), u6', u7'] ∧ Ext H7 H') ⟨_, rfl, .refl⟩ (fun e σ H' _ p => by
        obtain ⟨_, _, k⟩ := p
        exact SqL.of (k _ _ F7.1)) ?_ ?_⟩
      · rintro e x0 σ H8 hx ⟨u7', rfl, k8⟩
        rw [List.getElem?_map] at hx
        obtain ⟨r, hr0, rfl⟩ := Option.map_eq_some_iff.mp hx
        obtain ⟨sts, hs, RB, l6⟩ := F7.2.1.get hr0
        have F8 := F7.ext' k8
        have RB8 := RB.ext k8
        refine ⟨_, rfl, _, rfl, r, u, sts, ts, rfl, RB8.mono (Nat.le_max_right 0 b), l6, k8 _ _ hu7, hg, by omega, fun H9 k9 => ⟨true, rfl, iteF ?_⟩⟩
        obtain ⟨r1, r2, r3, r4, s1, s2, s3, s4, ers, erw, R1, R2, R3, R4, l1, l2, l3, l4⟩ := fourB_parts F8
        have hfo9 := k9 _ _ F8.1
        rw [ers] at hfo9
        exact ⟨_, rfl, _, rfl, fo, _, 0, .ref r1, rfl, rfl, SqL.of hfo9, rfl, r, r1, sts, s1, rfl, RB8.row.ext k9, l6, R1.row.ext k9, l1, fun H10 k10 => ⟨true, rfl, iteF ⟨_, rfl, (k8.trans k9).trans k10⟩⟩⟩
      · rintro σ H8 ⟨u7', rfl, k8⟩
        exact ⟨_, _, _, _, _, _, _, rfl, k1.trans ((k6.trans k7).trans k8)⟩
    · rintro σ H1 ⟨u1, u2, u3, u4, u5, u6, u7, rfl, k1⟩
      exact q H1
end
end Pd

set_option maxHeartbeats 4000000
namespace Pd
open PySem PySem.Spec PyProof.Rows L2 SX
/-! ### facts of classes -/
theorem kit_ref_no {K : PySem.W.Frag} {C D : Addr} (i : PySem.W.isClsIn K D = true) (t : PySem.W.typeIn K (.ref D) = some (.type "type")) (s : PySem.W.subIn K (.ref C) (.ref D) = some false) (s' : PySem.W.subIn K (.ref C) (.ref C) = some true) : PySem.W.kitOne K (.ref C) (.ref D) = some false := by
  have e : (PySem.W.clsIn K D).isSome = true := i
  have n : ¬ ((Value.ref C == Value.ref D) = true) := by
    intro h
    have h := beq_iff_eq.mp h
    rw [← h, s'] at s
    cases s
  unfold PySem.W.kitOne
  rw [if_neg n]
  simp [PySem.W.kitCls, t, e, s]
theorem nf_ref {K : PySem.W.Frag} {C D : Addr} (s : PySem.W.subIn K (.ref D) (.ref C) = some false) : PySem.W.notFirst K C (.ref D) = true := by
  unfold PySem.W.notFirst
  rw [s]; simp
end Pd

set_option maxHeartbeats 4000000
namespace Pd
open PySem PySem.Spec PyProof.Rows L2 SX
theorem all_mk {l : PySem.W.OpenLaw} {w : World} {K : PySem.W.Frag} {h : Heap} {mg : Str → Option Value} {fa C Bd Nd f0 f1 f2 f3 f4 f5 f6 f7 f8 f9 f10 f11 f12 f13 f14 f15 f16 f17 f18 f19 f20 f21 f22 f23 f24 f25 f26 f27 f28 f29 f30 f31 f32 f33 f34 f35 f36 f37 f38 f39 f40 D g0 Td Ed g1 g2 g3 g4 g5 g6 g7 g8 g9 g10 g11 g12 : Addr} (X : K.In h) (G : h.Ns mainGlobals mg) (hfa : mg "law" = some (.ref fa))
    {od0 an0 od1 an1 od2 an2 od3 an3 od4 an4 od5 an5 od6 an6 od7 an7 od8 an8 od9 an9 od10 an10 od11 an11 od12 an12 od13 an13 od14 an14 od15 an15 od16 an16 od17 an17 od18 an18 od19 an19 od20 an20 od21 an21 od22 an22 od23 an23 od24 an24 od25 an25 od26 an26 od27 an27 od28 an28 od29 an29 od30 an30 od31 an31 od32 an32 od33 an33 od34 an34 od35 an35 od36 an36 od37 an37 od38 an38 od39 an39 od40 an40 od_0 an_0 odT od_1 an_1 od_2 an_2 od_3 an_3 od_4 an_4 od_5 an_5 od_6 an_6 od_7 an_7 od_8 an_8 od_9 an_9 od_10 an_10 od_11 an_11 od_12 an_12 odE odB odN : Option Addr} {sl0 sl1 sl2 sl3 sl4 sl5 sl6 sl7 sl8 sl9 sl10 sl11 sl12 sl13 sl14 sl15 sl16 sl17 sl18 sl19 sl20 sl21 sl22 sl23 sl24 sl25 sl26 sl27 sl28 sl29 sl30 sl31 sl32 sl33 sl34 sl35 sl36 sl37 sl38 sl39 sl40 sl_0 slT sl_1 sl_2 sl_3 sl_4 sl_5 sl_6 sl_7 sl_8 sl_9 sl_10 sl_11 sl_12 slE slB slN : Array (Option Value)} {oc0 kV0 dc0 pm0 cd0 ct0 oc1 kV1 dc1 pm1 cd1 ct1 oc2 kV2 dc2 pm2 cd2 ct2 oc3 kV3 dc3 pm3 cd3 ct3 oc4 kV4 dc4 pm4 cd4 ct4 oc5 kV5 dc5 pm5 cd5 ct5 oc6 kV6 dc6 pm6 cd6 ct6 oc7 kV7 dc7 pm7 cd7 ct7 oc8 kV8 dc8 pm8 cd8 ct8 oc9 kV9 dc9 pm9 cd9 ct9 oc10 kV10 dc10 pm10 cd10 ct10 oc11 kV11 dc11 pm11 cd11 ct11 oc12 kV12 dc12 pm12 cd12 ct12 oc13 kV13 dc13 pm13 cd13 ct13 oc14 kV14 dc14 pm14 cd14 ct14 oc15 kV15 dc15 pm15 cd15 ct15 oc16 kV16 dc16 pm16 cd16 ct16 oc17 kV17 dc17 pm17 cd17 ct17 oc18 kV18 dc18 pm18 cd18 ct18 oc19 kV19 dc19 pm19 cd19 ct19 oc20 kV20 dc20 pm20 cd20 ct20 oc21 kV21 dc21 pm21 cd21 ct21 oc22 kV22 dc22 pm22 cd22 ct22 oc23 kV23 dc23 pm23 cd23 ct23 oc24 kV24 dc24 pm24 cd24 ct24 oc25 kV25 dc25 pm25 cd25 ct25 oc26 kV26 dc26 pm26 cd26 ct26 oc27 kV27 dc27 pm27 cd27 ct27 oc28 kV28 dc28 pm28 cd28 ct28 oc29 kV29 dc29 pm29 cd29 ct29 oc30 kV30 dc30 pm30 cd30 ct30 oc31 kV31 dc31 pm31 cd31 ct31 oc32 kV32 dc32 pm32 cd32 ct32 oc33 kV33 dc33 pm33 cd33 ct33 oc34 kV34 dc34 pm34 cd34 ct34 oc35 kV35 dc35 pm35 cd35 ct35 oc36 kV36 dc36 pm36 cd36 ct36 oc37 kV37 dc37 pm37 cd37 ct37 oc38 kV38 dc38 pm38 cd38 ct38 oc39 kV39 dc39 pm39 cd39 ct39 oc40 kV40 dc40 pm40 cd40 ct40 oc_0 kV_0 dc_0 pm_0 cd_0 ct_0 ocT oc_1 kV_1 dc_1 pm_1 cd_1 ct_1 oc_2 kV_2 dc_2 pm_2 cd_2 ct_2 oc_3 kV_3 dc_3 pm_3 cd_3 ct_3 oc_4 kV_4 dc_4 pm_4 cd_4 ct_4 oc_5 kV_5 dc_5 pm_5 cd_5 ct_5 oc_6 kV_6 dc_6 pm_6 cd_6 ct_6 oc_7 kV_7 dc_7 pm_7 cd_7 ct_7 oc_8 kV_8 dc_8 pm_8 cd_8 ct_8 oc_9 kV_9 dc_9 pm_9 cd_9 ct_9 oc_10 kV_10 dc_10 pm_10 cd_10 ct_10 oc_11 kV_11 dc_11 pm_11 cd_11 ct_11 oc_12 kV_12 dc_12 pm_12 cd_12 ct_12 : Value} {tb tw td u1 u2 u3 u4 y1 y2 y3 t0 t1 t2 t3 t4 : Tok} {nT nE nB nN : Nat} 
    (a0 : PySem.W.nsIn K mainGlobals "is_character" = some (some (.ref f0)))
    (l0 : K.lookup f0 = some ⟨oc0, od0, .func (PySem.W.fnOf "is_character" "is_character" (defArgs sIsCharacter) (defBody sIsCharacter) (defScope sIsCharacter) .none kV0 dc0 pm0 an0 cd0 ct0), sl0⟩)
    (c0 : PySem.W.codeIn K cd0 "is_character" = true)
    (k0 : PySem.W.keepIn K (.ref f0) = true)
    (a1 : PySem.W.nsIn K mainGlobals "is_text" = some (some (.ref f1)))
    (l1 : K.lookup f1 = some ⟨oc1, od1, .func (PySem.W.fnOf "is_text" "is_text" (defArgs sIsText) (defBody sIsText) (defScope sIsText) .none kV1 dc1 pm1 an1 cd1 ct1), sl1⟩)
    (c1 : PySem.W.codeIn K cd1 "is_text" = true)
    (k1 : PySem.W.keepIn K (.ref f1) = true)
    (a2 : PySem.W.nsIn K mainGlobals "is_integer" = some (some (.ref f2)))
    (l2 : K.lookup f2 = some ⟨oc2, od2, .func (PySem.W.fnOf "is_integer" "is_integer" (defArgs sIsInteger) (defBody sIsInteger) (defScope sIsInteger) .none kV2 dc2 pm2 an2 cd2 ct2), sl2⟩)
    (c2 : PySem.W.codeIn K cd2 "is_integer" = true)
    (k2 : PySem.W.keepIn K (.ref f2) = true)
    (a3 : PySem.W.nsIn K mainGlobals "is_step" = some (some (.ref f3)))
    (l3 : K.lookup f3 = some ⟨oc3, od3, .func (PySem.W.fnOf "is_step" "is_step" (defArgs sIsStep) (defBody sIsStep) (defScope sIsStep) .none kV3 dc3 pm3 an3 cd3 ct3), sl3⟩)
    (c3 : PySem.W.codeIn K cd3 "is_step" = true)
    (k3 : PySem.W.keepIn K (.ref f3) = true)
    (a4 : PySem.W.nsIn K mainGlobals "_is_choice" = some (some (.ref f4)))
    (l4 : K.lookup f4 = some ⟨oc4, od4, .func (PySem.W.fnOf "_is_choice" "_is_choice" (defArgs sIsChoice) (defBody sIsChoice) (defScope sIsChoice) .none kV4 dc4 pm4 an4 cd4 ct4), sl4⟩)
    (c4 : PySem.W.codeIn K cd4 "_is_choice" = true)
    (k4 : PySem.W.keepIn K (.ref f4) = true)
    (a5 : PySem.W.nsIn K mainGlobals "made_by_steps" = some (some (.ref f5)))
    (l5 : K.lookup f5 = some ⟨oc5, od5, .func (PySem.W.fnOf "made_by_steps" "made_by_steps" (defArgs sMadeBySteps) (defBody sMadeBySteps) (defScope sMadeBySteps) .none kV5 dc5 pm5 an5 cd5 ct5), sl5⟩)
    (c5 : PySem.W.codeIn K cd5 "made_by_steps" = true)
    (k5 : PySem.W.keepIn K (.ref f5) = true)
    (a6 : PySem.W.nsIn K mainGlobals "made_by_step" = some (some (.ref f6)))
    (l6 : K.lookup f6 = some ⟨oc6, od6, .func (PySem.W.fnOf "made_by_step" "made_by_step" (defArgs sMadeByStep) (defBody sMadeByStep) (defScope sMadeByStep) .none kV6 dc6 pm6 an6 cd6 ct6), sl6⟩)
    (c6 : PySem.W.codeIn K cd6 "made_by_step" = true)
    (k6 : PySem.W.keepIn K (.ref f6) = true)
    (a7 : PySem.W.nsIn K mainGlobals "_once" = some (some (.ref f7)))
    (l7 : K.lookup f7 = some ⟨oc7, od7, .func (PySem.W.fnOf "_once" "_once" (defArgs sOnce) (defBody sOnce) (defScope sOnce) .none kV7 dc7 pm7 an7 cd7 ct7), sl7⟩)
    (c7 : PySem.W.codeIn K cd7 "_once" = true)
    (k7 : PySem.W.keepIn K (.ref f7) = true)
    (a8 : PySem.W.nsIn K mainGlobals "folding_text" = some (some (.ref f8)))
    (l8 : K.lookup f8 = some ⟨oc8, od8, .func (PySem.W.fnOf "folding_text" "folding_text" (defArgs sFoldingText) (defBody sFoldingText) (defScope sFoldingText) .none kV8 dc8 pm8 an8 cd8 ct8), sl8⟩)
    (c8 : PySem.W.codeIn K cd8 "folding_text" = true)
    (k8 : PySem.W.keepIn K (.ref f8) = true)
    (a9 : PySem.W.nsIn K mainGlobals "_part_of" = some (some (.ref f9)))
    (l9 : K.lookup f9 = some ⟨oc9, od9, .func (PySem.W.fnOf "_part_of" "_part_of" (defArgs sPartOf) (defBody sPartOf) (defScope sPartOf) .none kV9 dc9 pm9 an9 cd9 ct9), sl9⟩)
    (c9 : PySem.W.codeIn K cd9 "_part_of" = true)
    (k9 : PySem.W.keepIn K (.ref f9) = true)
    (a10 : PySem.W.nsIn K mainGlobals "_word_of" = some (some (.ref f10)))
    (l10 : K.lookup f10 = some ⟨oc10, od10, .func (PySem.W.fnOf "_word_of" "_word_of" (defArgs sWordOf) (defBody sWordOf) (defScope sWordOf) .none kV10 dc10 pm10 an10 cd10 ct10), sl10⟩)
    (c10 : PySem.W.codeIn K cd10 "_word_of" = true)
    (k10 : PySem.W.keepIn K (.ref f10) = true)
    (a11 : PySem.W.nsIn K mainGlobals "doors_text" = some (some (.ref f11)))
    (l11 : K.lookup f11 = some ⟨oc11, od11, .func (PySem.W.fnOf "doors_text" "doors_text" (defArgs sDoorsText) (defBody sDoorsText) (defScope sDoorsText) .none kV11 dc11 pm11 an11 cd11 ct11), sl11⟩)
    (c11 : PySem.W.codeIn K cd11 "doors_text" = true)
    (k11 : PySem.W.keepIn K (.ref f11) = true)
    (a12 : PySem.W.nsIn K mainGlobals "read_folding" = some (some (.ref f12)))
    (l12 : K.lookup f12 = some ⟨oc12, od12, .func (PySem.W.fnOf "read_folding" "read_folding" (defArgs sReadFolding) (defBody sReadFolding) (defScope sReadFolding) .none kV12 dc12 pm12 an12 cd12 ct12), sl12⟩)
    (c12 : PySem.W.codeIn K cd12 "read_folding" = true)
    (k12 : PySem.W.keepIn K (.ref f12) = true)
    (a13 : PySem.W.nsIn K mainGlobals "_step_of" = some (some (.ref f13)))
    (l13 : K.lookup f13 = some ⟨oc13, od13, .func (PySem.W.fnOf "_step_of" "_step_of" (defArgs sStepOf) (defBody sStepOf) (defScope sStepOf) .none kV13 dc13 pm13 an13 cd13 ct13), sl13⟩)
    (c13 : PySem.W.codeIn K cd13 "_step_of" = true)
    (k13 : PySem.W.keepIn K (.ref f13) = true)
    (a14 : PySem.W.nsIn K mainGlobals "_number_of" = some (some (.ref f14)))
    (l14 : K.lookup f14 = some ⟨oc14, od14, .func (PySem.W.fnOf "_number_of" "_number_of" (defArgs sNumberOf) (defBody sNumberOf) (defScope sNumberOf) .none kV14 dc14 pm14 an14 cd14 ct14), sl14⟩)
    (c14 : PySem.W.codeIn K cd14 "_number_of" = true)
    (k14 : PySem.W.keepIn K (.ref f14) = true)
    (a15 : PySem.W.nsIn K mainGlobals "read_doors" = some (some (.ref f15)))
    (l15 : K.lookup f15 = some ⟨oc15, od15, .func (PySem.W.fnOf "read_doors" "read_doors" (defArgs sReadDoors) (defBody sReadDoors) (defScope sReadDoors) .none kV15 dc15 pm15 an15 cd15 ct15), sl15⟩)
    (c15 : PySem.W.codeIn K cd15 "read_doors" = true)
    (k15 : PySem.W.keepIn K (.ref f15) = true)
    (a16 : PySem.W.nsIn K mainGlobals "_folding_of" = some (some (.ref f16)))
    (l16 : K.lookup f16 = some ⟨oc16, od16, .func (PySem.W.fnOf "_folding_of" "_folding_of" (defArgs sFoldingOf) (defBody sFoldingOf) (defScope sFoldingOf) .none kV16 dc16 pm16 an16 cd16 ct16), sl16⟩)
    (c16 : PySem.W.codeIn K cd16 "_folding_of" = true)
    (k16 : PySem.W.keepIn K (.ref f16) = true)
    (a17 : PySem.W.nsIn K mainGlobals "answers" = some (some (.ref f17)))
    (l17 : K.lookup f17 = some ⟨oc17, od17, .func (PySem.W.fnOf "answers" "answers" (defArgs sAnswers) (defBody sAnswers) (defScope sAnswers) .none kV17 dc17 pm17 an17 cd17 ct17), sl17⟩)
    (c17 : PySem.W.codeIn K cd17 "answers" = true)
    (k17 : PySem.W.keepIn K (.ref f17) = true)
    (a18 : PySem.W.nsIn K mainGlobals "_foldings_of" = some (some (.ref f18)))
    (l18 : K.lookup f18 = some ⟨oc18, od18, .func (PySem.W.fnOf "_foldings_of" "_foldings_of" (defArgs sFoldingsOf) (defBody sFoldingsOf) (defScope sFoldingsOf) .none kV18 dc18 pm18 an18 cd18 ct18), sl18⟩)
    (c18 : PySem.W.codeIn K cd18 "_foldings_of" = true)
    (k18 : PySem.W.keepIn K (.ref f18) = true)
    (a19 : PySem.W.nsIn K mainGlobals "_is_name" = some (some (.ref f19)))
    (l19 : K.lookup f19 = some ⟨oc19, od19, .func (PySem.W.fnOf "_is_name" "_is_name" (defArgs sIsName) (defBody sIsName) (defScope sIsName) .none kV19 dc19 pm19 an19 cd19 ct19), sl19⟩)
    (c19 : PySem.W.codeIn K cd19 "_is_name" = true)
    (k19 : PySem.W.keepIn K (.ref f19) = true)
    (a20 : PySem.W.nsIn K mainGlobals "_check_deeds" = some (some (.ref f20)))
    (l20 : K.lookup f20 = some ⟨oc20, od20, .func (PySem.W.fnOf "_check_deeds" "_check_deeds" (defArgs sCheckDeeds) (defBody sCheckDeeds) (defScope sCheckDeeds) .none kV20 dc20 pm20 an20 cd20 ct20), sl20⟩)
    (c20 : PySem.W.codeIn K cd20 "_check_deeds" = true)
    (k20 : PySem.W.keepIn K (.ref f20) = true)
    (a21 : PySem.W.nsIn K mainGlobals "_is_deed" = some (some (.ref f21)))
    (l21 : K.lookup f21 = some ⟨oc21, od21, .func (PySem.W.fnOf "_is_deed" "_is_deed" (defArgs sIsDeed) (defBody sIsDeed) (defScope sIsDeed) .none kV21 dc21 pm21 an21 cd21 ct21), sl21⟩)
    (c21 : PySem.W.codeIn K cd21 "_is_deed" = true)
    (k21 : PySem.W.keepIn K (.ref f21) = true)
    (a22 : PySem.W.nsIn K mainGlobals "_law_well" = some (some (.ref f22)))
    (l22 : K.lookup f22 = some ⟨oc22, od22, .func (PySem.W.fnOf "_law_well" "_law_well" (defArgs sLawWell) (defBody sLawWell) (defScope sLawWell) .none kV22 dc22 pm22 an22 cd22 ct22), sl22⟩)
    (c22 : PySem.W.codeIn K cd22 "_law_well" = true)
    (k22 : PySem.W.keepIn K (.ref f22) = true)
    (a23 : PySem.W.nsIn K mainGlobals "_law_draw" = some (some (.ref f23)))
    (l23 : K.lookup f23 = some ⟨oc23, od23, .func (PySem.W.fnOf "_law_draw" "_law_draw" (defArgs sLawDraw) (defBody sLawDraw) (defScope sLawDraw) .none kV23 dc23 pm23 an23 cd23 ct23), sl23⟩)
    (c23 : PySem.W.codeIn K cd23 "_law_draw" = true)
    (k23 : PySem.W.keepIn K (.ref f23) = true)
    (a24 : PySem.W.nsIn K mainGlobals "_law_chars" = some (some (.ref f24)))
    (l24 : K.lookup f24 = some ⟨oc24, od24, .func (PySem.W.fnOf "_law_chars" "_law_chars" (defArgs sLawChars) (defBody sLawChars) (defScope sLawChars) .none kV24 dc24 pm24 an24 cd24 ct24), sl24⟩)
    (c24 : PySem.W.codeIn K cd24 "_law_chars" = true)
    (k24 : PySem.W.keepIn K (.ref f24) = true)
    (a25 : PySem.W.nsIn K mainGlobals "_law_pool" = some (some (.ref f25)))
    (l25 : K.lookup f25 = some ⟨oc25, od25, .func (PySem.W.fnOf "_law_pool" "_law_pool" (defArgs sLawPool) (defBody sLawPool) (defScope sLawPool) .none kV25 dc25 pm25 an25 cd25 ct25), sl25⟩)
    (c25 : PySem.W.codeIn K cd25 "_law_pool" = true)
    (k25 : PySem.W.keepIn K (.ref f25) = true)
    (a26 : PySem.W.nsIn K mainGlobals "_law_character" = some (some (.ref f26)))
    (l26 : K.lookup f26 = some ⟨oc26, od26, .func (PySem.W.fnOf "_law_character" "_law_character" (defArgs sLawCharacter) (defBody sLawCharacter) (defScope sLawCharacter) .none kV26 dc26 pm26 an26 cd26 ct26), sl26⟩)
    (c26 : PySem.W.codeIn K cd26 "_law_character" = true)
    (k26 : PySem.W.keepIn K (.ref f26) = true)
    (a27 : PySem.W.nsIn K mainGlobals "_law_step" = some (some (.ref f27)))
    (l27 : K.lookup f27 = some ⟨oc27, od27, .func (PySem.W.fnOf "_law_step" "_law_step" (defArgs sLawStep) (defBody sLawStep) (defScope sLawStep) .none kV27 dc27 pm27 an27 cd27 ct27), sl27⟩)
    (c27 : PySem.W.codeIn K cd27 "_law_step" = true)
    (k27 : PySem.W.keepIn K (.ref f27) = true)
    (a28 : PySem.W.nsIn K mainGlobals "_law_steps" = some (some (.ref f28)))
    (l28 : K.lookup f28 = some ⟨oc28, od28, .func (PySem.W.fnOf "_law_steps" "_law_steps" (defArgs sLawSteps) (defBody sLawSteps) (defScope sLawSteps) .none kV28 dc28 pm28 an28 cd28 ct28), sl28⟩)
    (c28 : PySem.W.codeIn K cd28 "_law_steps" = true)
    (k28 : PySem.W.keepIn K (.ref f28) = true)
    (a29 : PySem.W.nsIn K mainGlobals "_law_part" = some (some (.ref f29)))
    (l29 : K.lookup f29 = some ⟨oc29, od29, .func (PySem.W.fnOf "_law_part" "_law_part" (defArgs sLawPart) (defBody sLawPart) (defScope sLawPart) .none kV29 dc29 pm29 an29 cd29 ct29), sl29⟩)
    (c29 : PySem.W.codeIn K cd29 "_law_part" = true)
    (k29 : PySem.W.keepIn K (.ref f29) = true)
    (a30 : PySem.W.nsIn K mainGlobals "_law_folding_text" = some (some (.ref f30)))
    (l30 : K.lookup f30 = some ⟨oc30, od30, .func (PySem.W.fnOf "_law_folding_text" "_law_folding_text" (defArgs sLawFoldingText) (defBody sLawFoldingText) (defScope sLawFoldingText) .none kV30 dc30 pm30 an30 cd30 ct30), sl30⟩)
    (c30 : PySem.W.codeIn K cd30 "_law_folding_text" = true)
    (k30 : PySem.W.keepIn K (.ref f30) = true)
    (a31 : PySem.W.nsIn K mainGlobals "_law_same" = some (some (.ref f31)))
    (l31 : K.lookup f31 = some ⟨oc31, od31, .func (PySem.W.fnOf "_law_same" "_law_same" (defArgs sLawSame) (defBody sLawSame) (defScope sLawSame) .none kV31 dc31 pm31 an31 cd31 ct31), sl31⟩)
    (c31 : PySem.W.codeIn K cd31 "_law_same" = true)
    (k31 : PySem.W.keepIn K (.ref f31) = true)
    (a32 : PySem.W.nsIn K mainGlobals "_law_doors" = some (some (.ref f32)))
    (l32 : K.lookup f32 = some ⟨oc32, od32, .func (PySem.W.fnOf "_law_doors" "_law_doors" (defArgs sLawDoors) (defBody sLawDoors) (defScope sLawDoors) .none kV32 dc32 pm32 an32 cd32 ct32), sl32⟩)
    (c32 : PySem.W.codeIn K cd32 "_law_doors" = true)
    (k32 : PySem.W.keepIn K (.ref f32) = true)
    (a33 : PySem.W.nsIn K mainGlobals "_law_doors_text" = some (some (.ref f33)))
    (l33 : K.lookup f33 = some ⟨oc33, od33, .func (PySem.W.fnOf "_law_doors_text" "_law_doors_text" (defArgs sLawDoorsText) (defBody sLawDoorsText) (defScope sLawDoorsText) .none kV33 dc33 pm33 an33 cd33 ct33), sl33⟩)
    (c33 : PySem.W.codeIn K cd33 "_law_doors_text" = true)
    (k33 : PySem.W.keepIn K (.ref f33) = true)
    (a34 : PySem.W.nsIn K mainGlobals "_law_fold" = some (some (.ref f34)))
    (l34 : K.lookup f34 = some ⟨oc34, od34, .func (PySem.W.fnOf "_law_fold" "_law_fold" (defArgs sLawFold) (defBody sLawFold) (defScope sLawFold) .none kV34 dc34 pm34 an34 cd34 ct34), sl34⟩)
    (c34 : PySem.W.codeIn K cd34 "_law_fold" = true)
    (k34 : PySem.W.keepIn K (.ref f34) = true)
    (a35 : PySem.W.nsIn K mainGlobals "_law_text" = some (some (.ref f35)))
    (l35 : K.lookup f35 = some ⟨oc35, od35, .func (PySem.W.fnOf "_law_text" "_law_text" (defArgs sLawText) (defBody sLawText) (defScope sLawText) .none kV35 dc35 pm35 an35 cd35 ct35), sl35⟩)
    (c35 : PySem.W.codeIn K cd35 "_law_text" = true)
    (k35 : PySem.W.keepIn K (.ref f35) = true)
    (a36 : PySem.W.nsIn K mainGlobals "_law_round" = some (some (.ref f36)))
    (l36 : K.lookup f36 = some ⟨oc36, od36, .func (PySem.W.fnOf "_law_round" "_law_round" (defArgs sLawRound) (defBody sLawRound) (defScope sLawRound) .none kV36 dc36 pm36 an36 cd36 ct36), sl36⟩)
    (c36 : PySem.W.codeIn K cd36 "_law_round" = true)
    (k36 : PySem.W.keepIn K (.ref f36) = true)
    (a37 : PySem.W.nsIn K mainGlobals "_law_parts" = some (some (.ref f37)))
    (l37 : K.lookup f37 = some ⟨oc37, od37, .func (PySem.W.fnOf "_law_parts" "_law_parts" (defArgs sLawParts) (defBody sLawParts) (defScope sLawParts) .none kV37 dc37 pm37 an37 cd37 ct37), sl37⟩)
    (c37 : PySem.W.codeIn K cd37 "_law_parts" = true)
    (k37 : PySem.W.keepIn K (.ref f37) = true)
    (a38 : PySem.W.nsIn K mainGlobals "_law_answers" = some (some (.ref f38)))
    (l38 : K.lookup f38 = some ⟨oc38, od38, .func (PySem.W.fnOf "_law_answers" "_law_answers" (defArgs sLawAnswers) (defBody sLawAnswers) (defScope sLawAnswers) .none kV38 dc38 pm38 an38 cd38 ct38), sl38⟩)
    (c38 : PySem.W.codeIn K cd38 "_law_answers" = true)
    (k38 : PySem.W.keepIn K (.ref f38) = true)
    (a39 : PySem.W.nsIn K mainGlobals "_law_doors_round" = some (some (.ref f39)))
    (l39 : K.lookup f39 = some ⟨oc39, od39, .func (PySem.W.fnOf "_law_doors_round" "_law_doors_round" (defArgs sLawDoorsRound) (defBody sLawDoorsRound) (defScope sLawDoorsRound) .none kV39 dc39 pm39 an39 cd39 ct39), sl39⟩)
    (c39 : PySem.W.codeIn K cd39 "_law_doors_round" = true)
    (k39 : PySem.W.keepIn K (.ref f39) = true)
    (a40 : PySem.W.nsIn K mainGlobals "law" = some (some (.ref f40)))
    (l40 : K.lookup f40 = some ⟨oc40, od40, .func (PySem.W.fnOf "law" "law" (defArgs sLaw) (defBody sLaw) (defScope sLaw) .none kV40 dc40 pm40 an40 cd40 ct40), sl40⟩)
    (c40 : PySem.W.codeIn K cd40 "law" = true)
    (k40 : PySem.W.keepIn K (.ref f40) = true)
    (aC : PySem.W.nsIn K mainGlobals "Folding" = some (some (.ref C)))
    (aD : PySem.W.nsIn K mainGlobals "Doors" = some (some (.ref D)))
    (a_0 : PySem.W.findIn K (.ref C) "__init__" = some (some (.ref g0)))
    (i_0 : PySem.W.isFn K (.ref g0) = true)
    (l_0 : K.lookup g0 = some ⟨oc_0, od_0, .func (PySem.W.fnOf "__init__" "Folding.__init__" (defArgs sFoldingInit) (defBody sFoldingInit) (defScope sFoldingInit) (.ref Td) kV_0 dc_0 pm_0 an_0 cd_0 ct_0), sl_0⟩)
    (c_0 : PySem.W.codeIn K cd_0 "Folding.__init__" = true)
    (k_0 : PySem.W.keepIn K (.ref g0) = true)
    (lT : K.lookup Td = some ⟨ocT, odT, .seq #[.ref Ed] nT, slT⟩)
    (a_1 : PySem.W.findIn K (.ref C) "__call__" = some (some (.ref g1)))
    (i_1 : PySem.W.isFn K (.ref g1) = true)
    (l_1 : K.lookup g1 = some ⟨oc_1, od_1, .func (PySem.W.fnOf "__call__" "Folding.__call__" (defArgs sFoldingCall) (defBody sFoldingCall) (defScope sFoldingCall) .none kV_1 dc_1 pm_1 an_1 cd_1 ct_1), sl_1⟩)
    (c_1 : PySem.W.codeIn K cd_1 "Folding.__call__" = true)
    (k_1 : PySem.W.keepIn K (.ref g1) = true)
    (fi_1 : PySem.W.fnIn K g1 = true)
    (a_2 : PySem.W.findIn K (.ref C) "__len__" = some (some (.ref g2)))
    (i_2 : PySem.W.isFn K (.ref g2) = true)
    (l_2 : K.lookup g2 = some ⟨oc_2, od_2, .func (PySem.W.fnOf "__len__" "Folding.__len__" (defArgs sFoldingLen) (defBody sFoldingLen) (defScope sFoldingLen) .none kV_2 dc_2 pm_2 an_2 cd_2 ct_2), sl_2⟩)
    (c_2 : PySem.W.codeIn K cd_2 "Folding.__len__" = true)
    (k_2 : PySem.W.keepIn K (.ref g2) = true)
    (a_3 : PySem.W.findIn K (.ref C) "steps" = some (some (.ref g3)))
    (i_3 : PySem.W.isFn K (.ref g3) = true)
    (l_3 : K.lookup g3 = some ⟨oc_3, od_3, .func (PySem.W.fnOf "steps" "Folding.steps" (defArgs sFoldingSteps) (defBody sFoldingSteps) (defScope sFoldingSteps) .none kV_3 dc_3 pm_3 an_3 cd_3 ct_3), sl_3⟩)
    (c_3 : PySem.W.codeIn K cd_3 "Folding.steps" = true)
    (k_3 : PySem.W.keepIn K (.ref g3) = true)
    (a_4 : PySem.W.findIn K (.ref D) "__init__" = some (some (.ref g4)))
    (i_4 : PySem.W.isFn K (.ref g4) = true)
    (l_4 : K.lookup g4 = some ⟨oc_4, od_4, .func (PySem.W.fnOf "__init__" "Doors.__init__" (defArgs sDoorsInit) (defBody sDoorsInit) (defScope sDoorsInit) .none kV_4 dc_4 pm_4 an_4 cd_4 ct_4), sl_4⟩)
    (c_4 : PySem.W.codeIn K cd_4 "Doors.__init__" = true)
    (k_4 : PySem.W.keepIn K (.ref g4) = true)
    (a_5 : PySem.W.findIn K (.ref D) "put" = some (some (.ref g5)))
    (i_5 : PySem.W.isFn K (.ref g5) = true)
    (l_5 : K.lookup g5 = some ⟨oc_5, od_5, .func (PySem.W.fnOf "put" "Doors.put" (defArgs sDoorsPut) (defBody sDoorsPut) (defScope sDoorsPut) .none kV_5 dc_5 pm_5 an_5 cd_5 ct_5), sl_5⟩)
    (c_5 : PySem.W.codeIn K cd_5 "Doors.put" = true)
    (k_5 : PySem.W.keepIn K (.ref g5) = true)
    (a_6 : PySem.W.findIn K (.ref D) "find" = some (some (.ref g6)))
    (i_6 : PySem.W.isFn K (.ref g6) = true)
    (l_6 : K.lookup g6 = some ⟨oc_6, od_6, .func (PySem.W.fnOf "find" "Doors.find" (defArgs sDoorsFind) (defBody sDoorsFind) (defScope sDoorsFind) .none kV_6 dc_6 pm_6 an_6 cd_6 ct_6), sl_6⟩)
    (c_6 : PySem.W.codeIn K cd_6 "Doors.find" = true)
    (k_6 : PySem.W.keepIn K (.ref g6) = true)
    (a_7 : PySem.W.findIn K (.ref D) "strike" = some (some (.ref g7)))
    (i_7 : PySem.W.isFn K (.ref g7) = true)
    (l_7 : K.lookup g7 = some ⟨oc_7, od_7, .func (PySem.W.fnOf "strike" "Doors.strike" (defArgs sDoorsStrike) (defBody sDoorsStrike) (defScope sDoorsStrike) .none kV_7 dc_7 pm_7 an_7 cd_7 ct_7), sl_7⟩)
    (c_7 : PySem.W.codeIn K cd_7 "Doors.strike" = true)
    (k_7 : PySem.W.keepIn K (.ref g7) = true)
    (a_8 : PySem.W.findIn K (.ref D) "wish" = some (some (.ref g8)))
    (i_8 : PySem.W.isFn K (.ref g8) = true)
    (l_8 : K.lookup g8 = some ⟨oc_8, od_8, .func (PySem.W.fnOf "wish" "Doors.wish" (defArgs sDoorsWish) (defBody sDoorsWish) (defScope sDoorsWish) .none kV_8 dc_8 pm_8 an_8 cd_8 ct_8), sl_8⟩)
    (c_8 : PySem.W.codeIn K cd_8 "Doors.wish" = true)
    (k_8 : PySem.W.keepIn K (.ref g8) = true)
    (a_9 : PySem.W.findIn K (.ref C) "__eq__" = some (some (.ref g9)))
    (i_9 : PySem.W.isFn K (.ref g9) = true)
    (l_9 : K.lookup g9 = some ⟨oc_9, od_9, .func (PySem.W.fnOf "__eq__" "Folding.__eq__" (defArgs sFoldingEq) (defBody sFoldingEq) (defScope sFoldingEq) .none kV_9 dc_9 pm_9 an_9 cd_9 ct_9), sl_9⟩)
    (c_9 : PySem.W.codeIn K cd_9 "Folding.__eq__" = true)
    (k_9 : PySem.W.keepIn K (.ref g9) = true)
    (a_10 : PySem.W.findIn K (.ref D) "__eq__" = some (some (.ref g10)))
    (i_10 : PySem.W.isFn K (.ref g10) = true)
    (l_10 : K.lookup g10 = some ⟨oc_10, od_10, .func (PySem.W.fnOf "__eq__" "Doors.__eq__" (defArgs sDoorsEq) (defBody sDoorsEq) (defScope sDoorsEq) .none kV_10 dc_10 pm_10 an_10 cd_10 ct_10), sl_10⟩)
    (c_10 : PySem.W.codeIn K cd_10 "Doors.__eq__" = true)
    (k_10 : PySem.W.keepIn K (.ref g10) = true)
    (a_11 : PySem.W.findIn K (.ref C) "without" = some (some (.ref g11)))
    (i_11 : PySem.W.isFn K (.ref g11) = true)
    (l_11 : K.lookup g11 = some ⟨oc_11, od_11, .func (PySem.W.fnOf "without" "Folding.without" (defArgs sFoldingWithout) (defBody sFoldingWithout) (defScope sFoldingWithout) .none kV_11 dc_11 pm_11 an_11 cd_11 ct_11), sl_11⟩)
    (c_11 : PySem.W.codeIn K cd_11 "Folding.without" = true)
    (k_11 : PySem.W.keepIn K (.ref g11) = true)
    (a_12 : PySem.W.findIn K (.ref C) "__add__" = some (some (.ref g12)))
    (i_12 : PySem.W.isFn K (.ref g12) = true)
    (l_12 : K.lookup g12 = some ⟨oc_12, od_12, .func (PySem.W.fnOf "__add__" "Folding.__add__" (defArgs sFoldingAdd) (defBody sFoldingAdd) (defScope sFoldingAdd) .none kV_12 dc_12 pm_12 an_12 cd_12 ct_12), sl_12⟩)
    (c_12 : PySem.W.codeIn K cd_12 "Folding.__add__" = true)
    (k_12 : PySem.W.keepIn K (.ref g12) = true)
    (pg : PySem.W.plainGet K C Str.empty = true)
    (hd : PySem.W.hasDictIn K C = true)
    (po : PySem.W.plainOver K C = true)
    (sa : PySem.W.findIn K (.ref C) "__setattr__" = some (some (.builtin "object.__setattr__")))
    (mkC : PySem.W.makesIn K C = true)
    (kc : PySem.W.keepIn K (.ref C) = true)
    (pgD : PySem.W.plainGet K D Str.empty = true)
    (hdD : PySem.W.hasDictIn K D = true)
    (poD : PySem.W.plainOver K D = true)
    (saD : PySem.W.findIn K (.ref D) "__setattr__" = some (some (.builtin "object.__setattr__")))
    (mkD : PySem.W.makesIn K D = true)
    (kcD : PySem.W.keepIn K (.ref D) = true)
    (nD0 : PySem.W.findIn K (.ref D) "_put" = some none)
    (nD1 : PySem.W.findIn K (.ref D) "_find" = some none)
    (nD2 : PySem.W.findIn K (.ref D) "_strike" = some none)
    (nD3 : PySem.W.findIn K (.ref D) "_wish" = some none)
    (xc : PySem.W.findIn K (.ref C) "__class__" = some (some (.builtin "object.__class__")))
    (xn : PySem.W.specialIn K (.builtin "object.__class__") "__get__" = some (some (.builtin "getset_descriptor.__get__")))
    (xt : PySem.W.takesIn K (.builtin "object.__class__") = some true)
    (xm : PySem.W.mroIn K C (.type "object") = some true)
    (nz : PySem.W.nsIn K mainGlobals "zip" = some none)
    (nl : PySem.W.nsIn K mainGlobals "list" = some none)
    (lE : K.lookup Ed = some ⟨.type "tuple", odE, .seq #[] nE, slE⟩)
    (xb : PySem.W.nsIn K mainGlobals "BETWEEN_STEPS" = some (some (.str "; " tb)))
    (xw : PySem.W.nsIn K mainGlobals "WITHOUT_STEPS" = some (some (.str "plain" tw)))
    (xd : PySem.W.nsIn K mainGlobals "DIGITS" = some (some (.str "0123456789" td)))
    (xB : PySem.W.nsIn K mainGlobals "BEGINNINGS" = some (some (.ref Bd)))
    (lB : K.lookup Bd = some ⟨.type "tuple", odB, .seq #[.str "put: " u1, .str "find: " u2, .str "strike: " u3, .str "wish: " u4] nB, slB⟩)
    (xcD : PySem.W.findIn K (.ref D) "__class__" = some (some (.builtin "object.__class__")))
    (xmD : PySem.W.mroIn K D (.type "object") = some true)
    (xf : PySem.W.selfFirst K C = true)
    (qn : PySem.W.findIn K (.ref C) "__ne__" = some (some (.builtin "object.__ne__")))
    (qo : PySem.W.subIn K (.ref C) (.type "object") = some true)
    (q0 : PySem.W.subIn K (.ref C) (.type "list") = some false)
    (q1 : PySem.W.subIn K (.ref C) (.type "tuple") = some false)
    (q2 : PySem.W.subIn K (.ref C) (.type "str") = some false)
    (q3 : PySem.W.subIn K (.ref C) (.type "int") = some false)
    (q4 : PySem.W.subIn K (.ref C) (.type "bool") = some false)
    (q5 : PySem.W.subIn K (.ref C) (.type "NoneType") = some false)
    (r0 : PySem.W.subIn K (.type "list") (.ref C) = some false)
    (r1 : PySem.W.subIn K (.type "tuple") (.ref C) = some false)
    (r2 : PySem.W.subIn K (.type "str") (.ref C) = some false)
    (r3 : PySem.W.subIn K (.type "int") (.ref C) = some false)
    (r4 : PySem.W.subIn K (.type "bool") (.ref C) = some false)
    (r5 : PySem.W.subIn K (.type "NoneType") (.ref C) = some false)
    (ic : PySem.W.isClsIn K C = true)
    (tc : PySem.W.typeIn K (.ref C) = some (.type "type"))
    (qnD : PySem.W.findIn K (.ref D) "__ne__" = some (some (.builtin "object.__ne__")))
    (qoD : PySem.W.subIn K (.ref D) (.type "object") = some true)
    (q0D : PySem.W.subIn K (.ref D) (.type "list") = some false)
    (q1D : PySem.W.subIn K (.ref D) (.type "tuple") = some false)
    (q2D : PySem.W.subIn K (.ref D) (.type "str") = some false)
    (q3D : PySem.W.subIn K (.ref D) (.type "int") = some false)
    (q4D : PySem.W.subIn K (.ref D) (.type "bool") = some false)
    (q5D : PySem.W.subIn K (.ref D) (.type "NoneType") = some false)
    (r0D : PySem.W.subIn K (.type "list") (.ref D) = some false)
    (r1D : PySem.W.subIn K (.type "tuple") (.ref D) = some false)
    (r2D : PySem.W.subIn K (.type "str") (.ref D) = some false)
    (r3D : PySem.W.subIn K (.type "int") (.ref D) = some false)
    (r4D : PySem.W.subIn K (.type "bool") (.ref D) = some false)
    (r5D : PySem.W.subIn K (.type "NoneType") (.ref D) = some false)
    (icD : PySem.W.isClsIn K D = true)
    (tcD : PySem.W.typeIn K (.ref D) = some (.type "type"))
    (sCD : PySem.W.subIn K (.ref C) (.ref D) = some false)
    (sDC : PySem.W.subIn K (.ref D) (.ref C) = some false)
    (sCC : PySem.W.subIn K (.ref C) (.ref C) = some true)
    (sDD : PySem.W.subIn K (.ref D) (.ref D) = some true)
    (xN : PySem.W.nsIn K mainGlobals "NAMES" = some (some (.ref Nd)))
    (lN : K.lookup Nd = some ⟨.type "tuple", odN, .seq #[.str "put" y1, .str "find" y2, .str "strike" y3] nN, slN⟩)
    (n0 : PySem.W.findIn K (.ref C) "_steps" = some none)
    (v0 : PySem.W.nsIn K mainGlobals "CHARACTERS" = some (some (.str "abcdefghijklmnopqrstuvwxyzABCDEFGHIJKLMNOPQRSTUVWXYZ0123456789 -._/'" t0)))
    (v1 : PySem.W.nsIn K mainGlobals "LONGEST_TEXT" = some (some (.int 60 t1)))
    (v2 : PySem.W.nsIn K mainGlobals "MOST_DROPPED" = some (some (.int 10 t2)))
    (v3 : PySem.W.nsIn K mainGlobals "LONGEST_CUT" = some (some (.int 9 t3)))
    (v4 : PySem.W.nsIn K mainGlobals "MOST_STEPS" = some (some (.int 6 t4)))
    (z0 : PySem.W.nsIn K mainGlobals "len" = some none)
    (z1 : PySem.W.nsIn K mainGlobals "int" = some none)
    (z2 : PySem.W.nsIn K mainGlobals "abs" = some none)
    (z3 : PySem.W.nsIn K mainGlobals "max" = some none)
    (z4 : PySem.W.nsIn K mainGlobals "min" = some none)
    (z5 : PySem.W.nsIn K mainGlobals "range" = some none)
    (z6 : PySem.W.nsIn K mainGlobals "isinstance" = some none)
    (z7 : PySem.W.nsIn K mainGlobals "str" = some none)
    (z8 : PySem.W.nsIn K mainGlobals "tuple" = some none)
    (z9 : PySem.W.nsIn K mainGlobals "bool" = some none)
    (z10 : PySem.W.nsIn K mainGlobals "all" = some none)
    (z11 : PySem.W.nsIn K mainGlobals "set" = some none)
    (z12 : PySem.W.nsIn K mainGlobals "enumerate" = some none)
    (zs : PySem.W.nsIn K cStatics sharingNotToldKey = some none) :
    ∃ fd : FuncData, (∀ (s : Shared) (v : Value), BindsTo s fd ⟨[v], []⟩ [("script", v)]) ∧ ∀ base : Heap, K.In base → base.Ns mainGlobals mg → FnOk l.prog w K mg base CX0 10 fa fd ["script"] (spLaw K) := by
  have e := hfa.symm.trans (PySem.W.mg_of X G a40)
  cases e
  have T : Nms mg := by
    constructor
    · exact PySem.W.mg_none_of X G z0
    · exact PySem.W.mg_none_of X G z1
    · exact PySem.W.mg_none_of X G z2
    · exact PySem.W.mg_none_of X G z3
    · exact PySem.W.mg_none_of X G z4
    · exact PySem.W.mg_none_of X G z5
    · exact PySem.W.mg_none_of X G z6
    · exact PySem.W.mg_none_of X G z7
    · exact PySem.W.mg_none_of X G z8
    · exact PySem.W.mg_none_of X G z9
    · exact PySem.W.mg_none_of X G z10
    · exact PySem.W.mg_none_of X G z11
    · exact PySem.W.mg_none_of X G z12
  have Cs : Cst mg := by
    constructor
    · exact ⟨_, PySem.W.mg_of X G v0⟩
    · exact ⟨_, PySem.W.mg_of X G v1⟩
    · exact ⟨_, PySem.W.mg_of X G v2⟩
    · exact ⟨_, PySem.W.mg_of X G v3⟩
    · exact ⟨_, PySem.W.mg_of X G v4⟩
  have F0 := fun_mk (st := sIsCharacter) l0 c0 k0
  have b0 := F0.binds (ps := ["value"]) fun _ _ _ _ _ _ us hl => match us, hl with | [_], _ => rfl
  have m0 := PySem.W.mg_of X G a0
  have F1 := fun_mk (st := sIsText) l1 c1 k1
  have b1 := F1.binds (ps := ["value"]) fun _ _ _ _ _ _ us hl => match us, hl with | [_], _ => rfl
  have m1 := PySem.W.mg_of X G a1
  have F2 := fun_mk (st := sIsInteger) l2 c2 k2
  have b2 := F2.binds (ps := ["value"]) fun _ _ _ _ _ _ us hl => match us, hl with | [_], _ => rfl
  have m2 := PySem.W.mg_of X G a2
  have F3 := fun_mk (st := sIsStep) l3 c3 k3
  have b3 := F3.binds (ps := ["value"]) fun _ _ _ _ _ _ us hl => match us, hl with | [_], _ => rfl
  have m3 := PySem.W.mg_of X G a3
  have F4 := fun_mk (st := sIsChoice) l4 c4 k4
  have b4 := F4.binds (ps := ["value"]) fun _ _ _ _ _ _ us hl => match us, hl with | [_], _ => rfl
  have m4 := PySem.W.mg_of X G a4
  have F5 := fun_mk (st := sMadeBySteps) l5 c5 k5
  have b5 := F5.binds (ps := ["steps", "text"]) fun _ _ _ _ _ _ us hl => match us, hl with | [_, _], _ => rfl
  have m5 := PySem.W.mg_of X G a5
  have F6 := fun_mk (st := sMadeByStep) l6 c6 k6
  have b6 := F6.binds (ps := ["step", "text"]) fun _ _ _ _ _ _ us hl => match us, hl with | [_, _], _ => rfl
  have m6 := PySem.W.mg_of X G a6
  have F7 := fun_mk (st := sOnce) l7 c7 k7
  have b7 := F7.binds (ps := ["text", "single"]) fun _ _ _ _ _ _ us hl => match us, hl with | [_, _], _ => rfl
  have m7 := PySem.W.mg_of X G a7
  have F8 := fun_mk (st := sFoldingText) l8 c8 k8
  have b8 := F8.binds (ps := ["folding"]) fun _ _ _ _ _ _ us hl => match us, hl with | [_], _ => rfl
  have m8 := PySem.W.mg_of X G a8
  have F9 := fun_mk (st := sPartOf) l9 c9 k9
  have b9 := F9.binds (ps := ["step"]) fun _ _ _ _ _ _ us hl => match us, hl with | [_], _ => rfl
  have m9 := PySem.W.mg_of X G a9
  have F10 := fun_mk (st := sWordOf) l10 c10 k10
  have b10 := F10.binds (ps := ["value"]) fun _ _ _ _ _ _ us hl => match us, hl with | [_], _ => rfl
  have m10 := PySem.W.mg_of X G a10
  have F11 := fun_mk (st := sDoorsText) l11 c11 k11
  have b11 := F11.binds (ps := ["doors"]) fun _ _ _ _ _ _ us hl => match us, hl with | [_], _ => rfl
  have m11 := PySem.W.mg_of X G a11
  have F12 := fun_mk (st := sReadFolding) l12 c12 k12
  have b12 := F12.binds (ps := ["text"]) fun _ _ _ _ _ _ us hl => match us, hl with | [_], _ => rfl
  have m12 := PySem.W.mg_of X G a12
  have F13 := fun_mk (st := sStepOf) l13 c13 k13
  have b13 := F13.binds (ps := ["part"]) fun _ _ _ _ _ _ us hl => match us, hl with | [_], _ => rfl
  have m13 := PySem.W.mg_of X G a13
  have F14 := fun_mk (st := sNumberOf) l14 c14 k14
  have b14 := F14.binds (ps := ["word"]) fun _ _ _ _ _ _ us hl => match us, hl with | [_], _ => rfl
  have m14 := PySem.W.mg_of X G a14
  have F15 := fun_mk (st := sReadDoors) l15 c15 k15
  have b15 := F15.binds (ps := ["text"]) fun _ _ _ _ _ _ us hl => match us, hl with | [_], _ => rfl
  have m15 := PySem.W.mg_of X G a15
  have F16 := fun_mk (st := sFoldingOf) l16 c16 k16
  have b16 := F16.binds (ps := ["at", "line"]) fun _ _ _ _ _ _ us hl => match us, hl with | [_, _], _ => rfl
  have m16 := PySem.W.mg_of X G a16
  have F17 := fun_mk (st := sAnswers) l17 c17 k17
  have b17 := F17.binds (ps := ["doors", "deeds"]) fun _ _ _ _ _ _ us hl => match us, hl with | [_, _], _ => rfl
  have m17 := PySem.W.mg_of X G a17
  have F18 := fun_mk (st := sFoldingsOf) l18 c18 k18
  have b18 := F18.binds (ps := ["doors"]) fun _ _ _ _ _ _ us hl => match us, hl with | [_], _ => rfl
  have m18 := PySem.W.mg_of X G a18
  have F19 := fun_mk (st := sIsName) l19 c19 k19
  have b19 := F19.binds (ps := ["value"]) fun _ _ _ _ _ _ us hl => match us, hl with | [_], _ => rfl
  have m19 := PySem.W.mg_of X G a19
  have F20 := fun_mk (st := sCheckDeeds) l20 c20 k20
  have b20 := F20.binds (ps := ["value"]) fun _ _ _ _ _ _ us hl => match us, hl with | [_], _ => rfl
  have m20 := PySem.W.mg_of X G a20
  have F21 := fun_mk (st := sIsDeed) l21 c21 k21
  have b21 := F21.binds (ps := ["value"]) fun _ _ _ _ _ _ us hl => match us, hl with | [_], _ => rfl
  have m21 := PySem.W.mg_of X G a21
  have F22 := fun_mk (st := sLawWell) l22 c22 k22
  have b22 := F22.binds (ps := ["script", "k"]) fun _ _ _ _ _ _ us hl => match us, hl with | [_, _], _ => rfl
  have m22 := PySem.W.mg_of X G a22
  have F23 := fun_mk (st := sLawDraw) l23 c23 k23
  have b23 := F23.binds (ps := ["well", "many"]) fun _ _ _ _ _ _ us hl => match us, hl with | [_, _], _ => rfl
  have m23 := PySem.W.mg_of X G a23
  have F24 := fun_mk (st := sLawChars) l24 c24 k24
  have b24 := F24.binds (ps := []) fun _ _ _ _ _ _ us hl => match us, hl with | [], _ => rfl
  have m24 := PySem.W.mg_of X G a24
  have F25 := fun_mk (st := sLawPool) l25 c25 k25
  have b25 := F25.binds (ps := ["well"]) fun _ _ _ _ _ _ us hl => match us, hl with | [_], _ => rfl
  have m25 := PySem.W.mg_of X G a25
  have F26 := fun_mk (st := sLawCharacter) l26 c26 k26
  have b26 := F26.binds (ps := ["well", "pool"]) fun _ _ _ _ _ _ us hl => match us, hl with | [_, _], _ => rfl
  have m26 := PySem.W.mg_of X G a26
  have F27 := fun_mk (st := sLawStep) l27 c27 k27
  have b27 := F27.binds (ps := ["well", "pool"]) fun _ _ _ _ _ _ us hl => match us, hl with | [_, _], _ => rfl
  have m27 := PySem.W.mg_of X G a27
  have F28 := fun_mk (st := sLawSteps) l28 c28 k28
  have b28 := F28.binds (ps := ["well", "pool"]) fun _ _ _ _ _ _ us hl => match us, hl with | [_, _], _ => rfl
  have m28 := PySem.W.mg_of X G a28
  have F29 := fun_mk (st := sLawPart) l29 c29 k29
  have b29 := F29.binds (ps := ["step"]) fun _ _ _ _ _ _ us hl => match us, hl with | [_], _ => rfl
  have m29 := PySem.W.mg_of X G a29
  have F30 := fun_mk (st := sLawFoldingText) l30 c30 k30
  have b30 := F30.binds (ps := ["steps"]) fun _ _ _ _ _ _ us hl => match us, hl with | [_], _ => rfl
  have m30 := PySem.W.mg_of X G a30
  have F31 := fun_mk (st := sLawSame) l31 c31 k31
  have b31 := F31.binds (ps := ["actual", "expected"]) fun _ _ _ _ _ _ us hl => match us, hl with | [_, _], _ => rfl
  have m31 := PySem.W.mg_of X G a31
  have F32 := fun_mk (st := sLawDoors) l32 c32 k32
  have b32 := F32.binds (ps := ["well", "pool"]) fun _ _ _ _ _ _ us hl => match us, hl with | [_, _], _ => rfl
  have m32 := PySem.W.mg_of X G a32
  have F33 := fun_mk (st := sLawDoorsText) l33 c33 k33
  have b33 := F33.binds (ps := ["four"]) fun _ _ _ _ _ _ us hl => match us, hl with | [_], _ => rfl
  have m33 := PySem.W.mg_of X G a33
  have F34 := fun_mk (st := sLawFold) l34 c34 k34
  have b34 := F34.binds (ps := ["steps", "text"]) fun _ _ _ _ _ _ us hl => match us, hl with | [_, _], _ => rfl
  have m34 := PySem.W.mg_of X G a34
  have F35 := fun_mk (st := sLawText) l35 c35 k35
  have b35 := F35.binds (ps := ["well", "pool", "used"]) fun _ _ _ _ _ _ us hl => match us, hl with | [_, _, _], _ => rfl
  have m35 := PySem.W.mg_of X G a35
  have F36 := fun_mk (st := sLawRound) l36 c36 k36
  have b36 := F36.binds (ps := ["steps", "texts"]) fun _ _ _ _ _ _ us hl => match us, hl with | [_, _], _ => rfl
  have m36 := PySem.W.mg_of X G a36
  have F37 := fun_mk (st := sLawParts) l37 c37 k37
  have b37 := F37.binds (ps := ["steps", "others"]) fun _ _ _ _ _ _ us hl => match us, hl with | [_, _], _ => rfl
  have m37 := PySem.W.mg_of X G a37
  have F38 := fun_mk (st := sLawAnswers) l38 c38 k38
  have b38 := F38.binds (ps := ["four", "deeds"]) fun _ _ _ _ _ _ us hl => match us, hl with | [_, _], _ => rfl
  have m38 := PySem.W.mg_of X G a38
  have F39 := fun_mk (st := sLawDoorsRound) l39 c39 k39
  have b39 := F39.binds (ps := ["four", "texts"]) fun _ _ _ _ _ _ us hl => match us, hl with | [_, _], _ => rfl
  have m39 := PySem.W.mg_of X G a39
  have F40 := fun_mk (st := sLaw) l40 c40 k40
  have b40 := F40.binds (ps := ["script"]) fun _ _ _ _ _ _ us hl => match us, hl with | [_], _ => rfl
  have m40 := PySem.W.mg_of X G a40
  have Z : Fcl K mg C := ⟨⟨pg, hd, po, sa⟩, n0, PySem.W.mg_of X G aC⟩
  have FI : FunD K "__init__" "Folding.__init__" (defArgs sFoldingInit) (defBody sFoldingInit) (defScope sFoldingInit) [.ref Ed] [] g0 (PySem.W.fnOf "__init__" "Folding.__init__" (defArgs sFoldingInit) (defBody sFoldingInit) (defScope sFoldingInit) (.ref Td) kV_0 dc_0 pm_0 an_0 cd_0 ct_0) := ⟨⟨_, _, _, _, _, _, _, _, _, _, rfl, l_0, c_0, .inr ⟨List.cons_ne_nil _ _, Td, _, [.ref Ed], nT, rfl, lT, rfl, .cons rfl .nil⟩, .inl rfl⟩, k_0⟩
  have FC := fun_mk (st := sFoldingCall) l_1 c_1 k_1
  have bC := FC.binds (ps := ["self", "text"]) fun _ _ _ _ _ _ us hl => match us, hl with | [_, _], _ => rfl
  have bI : Binds K (PySem.W.fnOf "__init__" "Folding.__init__" (defArgs sFoldingInit) (defBody sFoldingInit) (defScope sFoldingInit) (.ref Td) kV_0 dc_0 pm_0 an_0 cd_0 ct_0) ["self", "steps"] [] := by
    obtain ⟨ds, r, b⟩ := FI.binds1 (ps := ["self", "steps"]) 2 1 (List.cons_ne_nil _ _) rfl fun T kV doc pm an cdv ct us its h1 h2 => match us, its, h1, h2 with
      | [_, _], [_], _, _ => ⟨_, rfl, rfl⟩
    cases r
    exact b
  have FL := fun_mk (st := sFoldingLen) l_2 c_2 k_2
  have bL := FL.binds (ps := ["self"]) fun _ _ _ _ _ _ us hl => match us, hl with | [_], _ => rfl
  have FS := fun_mk (st := sFoldingSteps) l_3 c_3 k_3
  have bS := FS.binds (ps := ["self"]) fun _ _ _ _ _ _ us hl => match us, hl with | [_], _ => rfl
  have IC : C8.InsC K C := ⟨⟨pg, hd, po, sa⟩, xc, xn, xt, xm, by unfold PySem.W.kitOne; rw [if_pos (beq_self_eq_true _)]⟩
  have ZD : Dcl K mg D := ⟨⟨pgD, hdD, poD, saD⟩, nD0, nD1, nD2, nD3, PySem.W.mg_of X G aD⟩
  have FD0 := fun_mk (st := sDoorsInit) l_4 c_4 k_4
  have bD0 := FD0.binds (ps := ["self", "put", "find", "strike", "wish"]) fun _ _ _ _ _ _ us hl => match us, hl with | [_, _, _, _, _], _ => rfl
  have FD1 := fun_mk (st := sDoorsPut) l_5 c_5 k_5
  have bD1 := FD1.binds (ps := ["self"]) fun _ _ _ _ _ _ us hl => match us, hl with | [_], _ => rfl
  have FD2 := fun_mk (st := sDoorsFind) l_6 c_6 k_6
  have bD2 := FD2.binds (ps := ["self"]) fun _ _ _ _ _ _ us hl => match us, hl with | [_], _ => rfl
  have FD3 := fun_mk (st := sDoorsStrike) l_7 c_7 k_7
  have bD3 := FD3.binds (ps := ["self"]) fun _ _ _ _ _ _ us hl => match us, hl with | [_], _ => rfl
  have FD4 := fun_mk (st := sDoorsWish) l_8 c_8 k_8
  have bD4 := FD4.binds (ps := ["self"]) fun _ _ _ _ _ _ us hl => match us, hl with | [_], _ => rfl
  obtain ⟨ds, rds, bds⟩ := FI.binds1 (ps := ["self", "steps"]) 1 0 (List.cons_ne_nil _ _) rfl fun T kV doc pm an cdv ct us its h1 h2 => match us, its, h1, h2 with
    | [_], [_], _, _ => ⟨_, rfl, rfl⟩
  have RE : ∀ H : Hp, RowAt K H Ed [] := fun H => ⟨[], .inr ⟨_, #[], nE, lE, rfl, rfl, by show 0 ≤ sizeLine; decide, .nil⟩, .nil⟩
  refine ⟨PySem.W.fnOf "law" "law" (defArgs sLaw) (defBody sLaw) (defScope sLaw) .none kV40 dc40 pm40 an40 cd40 ct40, fun s v => .of_eq rfl, fun base KB GB => ?_⟩
  have Cchar : Cl l.prog w K mg base 1 "is_character" spIsChar := ⟨f0, _, _, ok_isChar F0 T Cs, m0, k0, b0⟩
  have Ctext : Cl l.prog w K mg base 1 "is_text" spIsText := ⟨f1, _, _, ok_isText F1 T Cs, m1, k1, b1⟩
  have Cint : Cl l.prog w K mg base 1 "is_integer" spIsInt := ⟨f2, _, _, ok_isInt F2 T, m2, k2, b2⟩
  have Cchoice : Cl l.prog w K mg base 2 "_is_choice" spIsChoice := ⟨f4, _, _, ok_isChoice F4 T Cs Cchar, m4, k4, b4⟩
  have Cstep : Cl l.prog w K mg base 3 "is_step" spIsStep := ⟨f3, _, _, ok_isStep F3 T Cs Cchar Cchoice Cint, m3, k3, b3⟩
  have Conce : Cl l.prog w K mg base 1 "_once" spOnce := ⟨f7, _, _, ok_once F7 T, m7, k7, b7⟩
  have Cmbs : Cl l.prog w K mg base 2 "made_by_step" spMade := ⟨f6, _, _, ok_madeByStep F6 T zs Conce, m6, k6, b6⟩
  have Cmss : Cl l.prog w K mg base 3 "made_by_steps" (spMadeSteps K) := ⟨f5, _, _, ok_madeBySteps F5 Cmbs, m5, k5, b5⟩
  have Fl : Fol l.prog w K mg base C := ⟨⟨g0, _, ⟨mkC, a_0, i_0, kc⟩, ok_finit FI T Cs Z Cstep, bI⟩, ⟨g1, _, ⟨a_1, i_1, fi_1⟩, ok_fcall FC T Z Ctext Cmss, bC⟩, Z.mgC⟩
  have Fs : FolS l.prog w K mg base C := ⟨Z.cl, ⟨g2, _, a_2, i_2, ok_flen FL T Z, bL⟩, ⟨g3, _, ⟨a_3, i_3, k_3⟩, ok_fsteps FS Z, bS⟩⟩
  have Dd : Drs l.prog w K mg base D := ⟨ZD, ⟨g4, _, ⟨mkD, a_4, i_4, kcD⟩, ok_dinit FD0 ZD, bD0⟩, ⟨g5, _, ⟨a_5, i_5, k_5⟩, ok_dput FD1 ZD, bD1⟩, ⟨g6, _, ⟨a_6, i_6, k_6⟩, ok_dfind FD2 ZD, bD2⟩, ⟨g7, _, ⟨a_7, i_7, k_7⟩, ok_dstrike FD3 ZD, bD3⟩, ⟨g8, _, ⟨a_8, i_8, k_8⟩, ok_dwish FD4 ZD, bD4⟩⟩
  have Ct : CstT mg := ⟨⟨_, PySem.W.mg_of X G xb⟩, ⟨_, PySem.W.mg_of X G xw⟩⟩
  have Cword : Cl l.prog w K mg base 1 "_word_of" spWord := ⟨f10, _, _, ok_word F10 T, m10, k10, b10⟩
  have Cpart : Cl l.prog w K mg base 2 "_part_of" spPart := ⟨f9, _, _, ok_part F9 Cword, m9, k9, b9⟩
  have Cft : Cl l.prog w K mg base 3 "folding_text" (spFText K C) := ⟨f8, _, _, ok_ftext F8 T Ct Fs Cpart, m8, k8, b8⟩
  have ml : mg "list" = none := PySem.W.mg_none_of X G nl
  have Cr : CstR mg := ⟨⟨_, PySem.W.mg_of X G xb⟩, ⟨_, PySem.W.mg_of X G xw⟩, ⟨_, PySem.W.mg_of X G xd⟩⟩
  have Cd : CstD K mg := ⟨⟨Bd, PySem.W.mg_of X G xB, fun H => .inr ⟨_, _, nB, lB, rfl, rfl, (show 4 ≤ sizeLine by decide), .cons ⟨_, rfl⟩ (.cons ⟨_, rfl⟩ (.cons ⟨_, rfl⟩ (.cons ⟨_, rfl⟩ .nil)))⟩⟩⟩
  have Cn : CstN K mg := ⟨⟨Nd, PySem.W.mg_of X G xN, fun H => .inr ⟨_, _, nN, lN, rfl, rfl, (show 3 ≤ sizeLine by decide), .cons ⟨_, rfl⟩ (.cons ⟨_, rfl⟩ (.cons ⟨_, rfl⟩ .nil))⟩⟩⟩
  have FE := fun_mk (st := sFoldingEq) l_9 c_9 k_9
  have bE := FE.binds (ps := ["self", "other"]) fun _ _ _ _ _ _ us hl => match us, hl with | [_, _], _ => rfl
  have FQ := fun_mk (st := sDoorsEq) l_10 c_10 k_10
  have bQ := FQ.binds (ps := ["self", "other"]) fun _ _ _ _ _ _ us hl => match us, hl with | [_, _], _ => rfl
  have FW := fun_mk (st := sFoldingWithout) l_11 c_11 k_11
  have bW := FW.binds (ps := ["self", "index"]) fun _ _ _ _ _ _ us hl => match us, hl with | [_, _], _ => rfl
  have FA := fun_mk (st := sFoldingAdd) l_12 c_12 k_12
  have bA := FA.binds (ps := ["self", "other"]) fun _ _ _ _ _ _ us hl => match us, hl with | [_, _], _ => rfl
  have EC : EqC K C g9 := ⟨a_9, i_9, qn, qo, q0, q1, q2, q3, q4, q5, r0, r1, r2, r3, r4, r5⟩
  have ED : EqC K D g10 := ⟨a_10, i_10, qnD, qoD, q0D, q1D, q2D, q3D, q4D, q5D, r0D, r1D, r2D, r3D, r4D, r5D⟩
  have ID : C8.InsC K D := ⟨⟨pgD, hdD, poD, saD⟩, xcD, xn, xt, xmD, by unfold PySem.W.kitOne; rw [if_pos (beq_self_eq_true _)]⟩
  have EF : EqF K C D g9 g10 := ⟨EC, ED, IC, ID, ⟨ic, tc⟩, ⟨icD, tcD⟩, kit_ref_no icD tcD sCD sCC, kit_ref_no ic tc sDC sDD, nf_ref sCD, nf_ref sDC⟩
  have KE1 := ok_feq (P := l.prog) (w := w) (base := base) FE T Z EF
  have Y2 : DrQ2 l.prog w K mg base C D := ⟨⟨g9, g10, _, _, EF, KE1, bE, ok_deq (g := g10) FQ T Dd.z EF KE1 bE, bQ⟩⟩
  have CintE : Cl l.prog w K mg base 1 "is_integer" (spIntE K) := ⟨f2, _, _, ok_intE F2 T, m2, k2, b2⟩
  have Aw : FolAw l.prog w K mg base C := ⟨⟨g12, _, xf, a_12, i_12, ok_fadd FA T Z IC Fl, bA⟩, ⟨g11, _, ⟨a_11, i_11, k_11⟩, ok_fwo FW T Z Fl CintE, bW⟩⟩
  have Y0 : FolN l.prog w K mg base C := ⟨⟨g0, _, ds, Ed, ⟨mkC, a_0, i_0, kc⟩, ok_finit FI T Cs Z Cstep, rds, bds, RE⟩⟩
  have Cnum : Cl l.prog w K mg base 1 "_number_of" spNum := ⟨f14, _, _, ok_num F14 T Cr, m14, k14, b14⟩
  have Csof : Cl l.prog w K mg base 2 "_step_of" spStepT := ⟨f13, _, _, ok_stepT F13 T Cnum, m13, k13, b13⟩
  have Crd : Cl l.prog w K mg base 6 "read_folding" (spReadT K C) := ⟨f12, _, _, ok_readT F12 T Cr Z Fl Y0 Csof Cstep, m12, k12, b12⟩
  have Cfo' : Cl l.prog w K mg base 7 "_folding_of" (spFOfT K C) := ⟨f16, _, _, ok_fofT F16 T Cd Crd, m16, k16, b16⟩
  have Crdd : Cl l.prog w K mg base 8 "read_doors" (spReadDT K C D) := ⟨f15, _, _, ok_readDT F15 T Cd Dd Cfo', m15, k15, b15⟩
  have Cdt : Cl l.prog w K mg base 4 "doors_text" (spDText K C D) := ⟨f11, _, _, ok_dtext F11 (PySem.W.mg_none_of X G nz) Cd Dd Cft, m11, k11, b11⟩
  have Cname : Cl l.prog w K mg base 1 "_is_name" spIsName := ⟨f19, _, _, ok_isName F19 T Cn, m19, k19, b19⟩
  have Cdeed : Cl l.prog w K mg base 2 "_is_deed" (spIsDeed K) := ⟨f21, _, _, ok_isDeed F21 T Cname Ctext, m21, k21, b21⟩
  have Ccheck : Cl l.prog w K mg base 3 "_check_deeds" (spCheckDeeds K) := ⟨f20, _, _, ok_checkDeeds F20 T ml Cdeed, m20, k20, b20⟩
  have Cfof : Cl l.prog w K mg base 2 "_foldings_of" (spFoldingsOf K C D) := ⟨f18, _, _, ok_foldingsOf F18 Dd, m18, k18, b18⟩
  have Cans : Cl l.prog w K mg base 5 "answers" (spAnswers K C D) := ⟨f17, _, _, ok_answers F17 T Fl Ccheck Cfof, m17, k17, b17⟩
  have Cwell : Cl l.prog w K mg base 1 "_law_well" (spJar K) := ⟨f22, _, _, ok_well F22 T, m22, k22, b22⟩
  have Cdraw : Cl l.prog w K mg base 1 "_law_draw" spDraw := ⟨f23, _, _, ok_bdraw F23 T, m23, k23, b23⟩
  have Cchars : Cl l.prog w K mg base 1 "_law_chars" spChars := ⟨f24, _, _, ok_chars F24, m24, k24, b24⟩
  have Cpool : Cl l.prog w K mg base 2 "_law_pool" spPool := ⟨f25, _, _, ok_pool F25 T Cdraw Cchars, m25, k25, b25⟩
  have Cchr : ClT l.prog w K mg base 2 "_law_character" spCharacter := ⟨f26, ok_character F26 Cdraw Cchars, m26, k26⟩
  have Clp : Cl l.prog w K mg base 1 "_law_part" spPart := ⟨f29, _, _, ok_lpart F29 T, m29, k29, b29⟩
  have Clt : Cl l.prog w K mg base 2 "_law_folding_text" (spLText K) := ⟨f30, _, _, ok_lftext F30 Clp, m30, k30, b30⟩
  have Csame : Cl l.prog w K mg base 3 "_law_same" (spSame K 2) := ⟨f31, _, _, ok_same F31 T m31 k31 b31 2, m31, k31, b31⟩
  have Cust : ClB l.prog w K mg base 3 "_law_step" spUstep := ⟨f27, ok_ustep F27 T Cdraw Cchr, m27, k27⟩
  have Curo : ClB l.prog w K mg base 4 "_law_steps" (spUrow K) := ⟨f28, ok_urow F28 T Cdraw Cust, m28, k28⟩
  have Cudo : ClB l.prog w K mg base 5 "_law_doors" (spUdoors K) := ⟨f32, ok_udoors F32 T Cdraw Cust Curo, m32, k32⟩
  have Cldt : Cl l.prog w K mg base 3 "_law_doors_text" (spLDText K) := ⟨f33, _, _, ok_ldtext F33 T Clt, m33, k33, b33⟩
  have Cfd : ClN l.prog w K mg base 1 "_law_fold" (spLFold K) := ⟨f34, fun n => ok_lfold n F34 T zs, m34, k34⟩
  have Ctx : Cl l.prog w K mg base 3 "_law_text" spTxt := ⟨f35, _, _, ok_ltext F35 T Cdraw Cchr, m35, k35, b35⟩
  have Crou : ClN l.prog w K mg base 7 "_law_round" (spRound K) := ⟨f36, fun n => ok_round n F36 T Z IC Fl Fs Y2 Clt Crd Cft Csame Cfd, m36, k36⟩
  have Cpar : Cl l.prog w K mg base 7 "_law_parts" (spParts K) := ⟨f37, _, _, ok_parts F37 T Z Fl Aw Fs Clt Cft Csame, m37, k37, b37⟩
  have Cla : ClN l.prog w K mg base 3 "_law_answers" (spLAnsw K) := ⟨f38, fun n => ok_lansw n F38 T Cfd, m38, k38⟩
  have Cdr : ClN l.prog w K mg base 9 "_law_doors_round" (spDRound K) := ⟨f39, fun n => ok_dround n F39 T ml ID Fl Fs Dd Y2 Cldt Crdd Cdt Csame Cans Cla, m39, k39⟩
  exact ok_law F40 T Cwell Cpool Cudo Ctx Cdr Crou Cpar
theorem walk {l : PySem.W.OpenLaw} {q : Program} {loose : List Str} {XP : (Str → Option Value) → Heap → Prop} {YP : World → Heap → Prop} {d : DefRec} {K : Params → PySem.W.Frag} (hn : l.most = some 63) (hdf : d.params.defaults = [])
    (hY : ∀ (w : World) (h : Heap), YP w h → (K w.params).In h)
    (F : ∀ (w : World) (mg : Str → Option Value) (fa : Addr) (h : Heap), (K w.params).In h → h.Ns mainGlobals mg → mg d.name = some (.ref fa) →
      ∃ fd : FuncData, (∀ (s : Shared) (u : Value), BindsTo s fd ⟨[u], []⟩ [("script", u)]) ∧ ∀ base : Heap, (K w.params).In base → base.Ns mainGlobals mg → FnOk l.prog w (K w.params) mg base CX0 10 fa fd ["script"] (spLaw (K w.params))) :
    PySem.W.WalkO q loose XP YP l.row.toRowW d [] (fun f vs => PySem.call f vs) :=
  L2.walk_of (n := 63) (k := 10) (x := "script") (CX := fun _ => CX0) (sp := fun w => spLaw (K w.params)) hn (by decide) hdf ⟨rfl, by decide, by decide⟩ hY F (fun _ _ a ns hl _ hS => ⟨a, ns, rfl, hS, hl, fun _ => rfl⟩) fun _ _ _ _ _ z => z
end Pd
open PySem PySem.W PyProof.Rows
set_option maxRecDepth 100000 in
set_option maxHeartbeats 0 in
theorem PySem.Challenge.cw_plaindoors_k14_whole_there_and_back_holds : PySem.Challenge.rw_plaindoors_k14_whole_there_and_back.Holds := by
  w_on; o_law; k_head; (case hw => w_witness2)
  k_fill
  refine Pd.walk (l := PySem.Challenge.rw_plaindoors_k14_whole_there_and_back) rfl rfl (fun w h Y => PySem.W.kIn_of Y) ?F
  case F =>
    intro w mg fa h KX G hmg
    refine' Pd.all_mk KX G hmg ?a0 ?l0 ?c0 ?k0 ?a1 ?l1 ?c1 ?k1 ?a2 ?l2 ?c2 ?k2 ?a3 ?l3 ?c3 ?k3 ?a4 ?l4 ?c4 ?k4 ?a5 ?l5 ?c5 ?k5 ?a6 ?l6 ?c6 ?k6 ?a7 ?l7 ?c7 ?k7 ?a8 ?l8 ?c8 ?k8 ?a9 ?l9 ?c9 ?k9 ?a10 ?l10 ?c10 ?k10 ?a11 ?l11 ?c11 ?k11 ?a12 ?l12 ?c12 ?k12 ?a13 ?l13 ?c13 ?k13 ?a14 ?l14 ?c14 ?k14 ?a15 ?l15 ?c15 ?k15 ?a16 ?l16 ?c16 ?k16 ?a17 ?l17 ?c17 ?k17 ?a18 ?l18 ?c18 ?k18 ?a19 ?l19 ?c19 ?k19 ?a20 ?l20 ?c20 ?k20 ?a21 ?l21 ?c21 ?k21 ?a22 ?l22 ?c22 ?k22 ?a23 ?l23 ?c23 ?k23 ?a24 ?l24 ?c24 ?k24 ?a25 ?l25 ?c25 ?k25 ?a26 ?l26 ?c26 ?k26 ?a27 ?l27 ?c27 ?k27 ?a28 ?l28 ?c28 ?k28 ?a29 ?l29 ?c29 ?k29 ?a30 ?l30 ?c30 ?k30 ?a31 ?l31 ?c31 ?k31 ?a32 ?l32 ?c32 ?k32 ?a33 ?l33 ?c33 ?k33 ?a34 ?l34 ?c34 ?k34 ?a35 ?l35 ?c35 ?k35 ?a36 ?l36 ?c36 ?k36 ?a37 ?l37 ?c37 ?k37 ?a38 ?l38 ?c38 ?k38 ?a39 ?l39 ?c39 ?k39 ?a40 ?l40 ?c40 ?k40 ?aC ?aD ?a_0 ?i_0 ?l_0 ?c_0 ?k_0 ?lT ?a_1 ?i_1 ?l_1 ?c_1 ?k_1 ?fi_1 ?a_2 ?i_2 ?l_2 ?c_2 ?k_2 ?a_3 ?i_3 ?l_3 ?c_3 ?k_3 ?a_4 ?i_4 ?l_4 ?c_4 ?k_4 ?a_5 ?i_5 ?l_5 ?c_5 ?k_5 ?a_6 ?i_6 ?l_6 ?c_6 ?k_6 ?a_7 ?i_7 ?l_7 ?c_7 ?k_7 ?a_8 ?i_8 ?l_8 ?c_8 ?k_8 ?a_9 ?i_9 ?l_9 ?c_9 ?k_9 ?a_10 ?i_10 ?l_10 ?c_10 ?k_10 ?a_11 ?i_11 ?l_11 ?c_11 ?k_11 ?a_12 ?i_12 ?l_12 ?c_12 ?k_12 ?pg ?hd ?po ?sa ?mkC ?kc ?pgD ?hdD ?poD ?saD ?mkD ?kcD ?nD0 ?nD1 ?nD2 ?nD3 ?xc ?xn ?xt ?xm ?nz ?nl ?lE ?xb ?xw ?xd ?xB ?lB ?xcD ?xmD ?xf ?qn ?qo ?q0 ?q1 ?q2 ?q3 ?q4 ?q5 ?r0 ?r1 ?r2 ?r3 ?r4 ?r5 ?ic ?tc ?qnD ?qoD ?q0D ?q1D ?q2D ?q3D ?q4D ?q5D ?r0D ?r1D ?r2D ?r3D ?r4D ?r5D ?icD ?tcD ?sCD ?sDC ?sCC ?sDD ?xN ?lN ?n0 ?v0 ?v1 ?v2 ?v3 ?v4 ?z0 ?z1 ?z2 ?z3 ?z4 ?z5 ?z6 ?z7 ?z8 ?z9 ?z10 ?z11 ?z12 ?zs
    (case a0 => k_is); (case l0 => k_is); (case c0 => k_is); (case k0 => k_is); (case a1 => k_is); (case l1 => k_is)
    (case c1 => k_is); (case k1 => k_is); (case a2 => k_is); (case l2 => k_is); (case c2 => k_is); (case k2 => k_is)
    (case a3 => k_is); (case l3 => k_is); (case c3 => k_is); (case k3 => k_is); (case a4 => k_is); (case l4 => k_is)
    (case c4 => k_is); (case k4 => k_is); (case a5 => k_is); (case l5 => k_is); (case c5 => k_is); (case k5 => k_is)
    (case a6 => k_is); (case l6 => k_is); (case c6 => k_is); (case k6 => k_is); (case a7 => k_is); (case l7 => k_is)
    (case c7 => k_is); (case k7 => k_is); (case a8 => k_is); (case l8 => k_is); (case c8 => k_is); (case k8 => k_is)
    (case a9 => k_is); (case l9 => k_is); (case c9 => k_is); (case k9 => k_is); (case a10 => k_is); (case l10 => k_is)
    (case c10 => k_is); (case k10 => k_is); (case a11 => k_is); (case l11 => k_is); (case c11 => k_is); (case k11 => k_is)
    (case a12 => k_is); (case l12 => k_is); (case c12 => k_is); (case k12 => k_is); (case a13 => k_is); (case l13 => k_is)
    (case c13 => k_is); (case k13 => k_is); (case a14 => k_is); (case l14 => k_is); (case c14 => k_is); (case k14 => k_is)
    (case a15 => k_is); (case l15 => k_is); (case c15 => k_is); (case k15 => k_is); (case a16 => k_is); (case l16 => k_is)
    (case c16 => k_is); (case k16 => k_is); (case a17 => k_is); (case l17 => k_is); (case c17 => k_is); (case k17 => k_is)
    (case a18 => k_is); (case l18 => k_is); (case c18 => k_is); (case k18 => k_is); (case a19 => k_is); (case l19 => k_is)
    (case c19 => k_is); (case k19 => k_is); (case a20 => k_is); (case l20 => k_is); (case c20 => k_is); (case k20 => k_is)
    (case a21 => k_is); (case l21 => k_is); (case c21 => k_is); (case k21 => k_is); (case a22 => k_is); (case l22 => k_is)
    (case c22 => k_is); (case k22 => k_is); (case a23 => k_is); (case l23 => k_is); (case c23 => k_is); (case k23 => k_is)
    (case a24 => k_is); (case l24 => k_is); (case c24 => k_is); (case k24 => k_is); (case a25 => k_is); (case l25 => k_is)
    (case c25 => k_is); (case k25 => k_is); (case a26 => k_is); (case l26 => k_is); (case c26 => k_is); (case k26 => k_is)
    (case a27 => k_is); (case l27 => k_is); (case c27 => k_is); (case k27 => k_is); (case a28 => k_is); (case l28 => k_is)
    (case c28 => k_is); (case k28 => k_is); (case a29 => k_is); (case l29 => k_is); (case c29 => k_is); (case k29 => k_is)
    (case a30 => k_is); (case l30 => k_is); (case c30 => k_is); (case k30 => k_is); (case a31 => k_is); (case l31 => k_is)
    (case c31 => k_is); (case k31 => k_is); (case a32 => k_is); (case l32 => k_is); (case c32 => k_is); (case k32 => k_is)
    (case a33 => k_is); (case l33 => k_is); (case c33 => k_is); (case k33 => k_is); (case a34 => k_is); (case l34 => k_is)
    (case c34 => k_is); (case k34 => k_is); (case a35 => k_is); (case l35 => k_is); (case c35 => k_is); (case k35 => k_is)
    (case a36 => k_is); (case l36 => k_is); (case c36 => k_is); (case k36 => k_is); (case a37 => k_is); (case l37 => k_is)
    (case c37 => k_is); (case k37 => k_is); (case a38 => k_is); (case l38 => k_is); (case c38 => k_is); (case k38 => k_is)
    (case a39 => k_is); (case l39 => k_is); (case c39 => k_is); (case k39 => k_is); (case a40 => k_is); (case l40 => k_is)
    (case c40 => k_is); (case k40 => k_is); (case aC => k_is); (case aD => k_is); (case a_0 => k_is); (case i_0 => k_is)
    (case l_0 => k_is); (case c_0 => k_is); (case k_0 => k_is); (case lT => k_is); (case a_1 => k_is); (case i_1 => k_is)
    (case l_1 => k_is); (case c_1 => k_is); (case k_1 => k_is); (case fi_1 => k_is); (case a_2 => k_is); (case i_2 => k_is)
    (case l_2 => k_is); (case c_2 => k_is); (case k_2 => k_is); (case a_3 => k_is); (case i_3 => k_is); (case l_3 => k_is)
    (case c_3 => k_is); (case k_3 => k_is); (case a_4 => k_is); (case i_4 => k_is); (case l_4 => k_is); (case c_4 => k_is)
    (case k_4 => k_is); (case a_5 => k_is); (case i_5 => k_is); (case l_5 => k_is); (case c_5 => k_is); (case k_5 => k_is)
    (case a_6 => k_is); (case i_6 => k_is); (case l_6 => k_is); (case c_6 => k_is); (case k_6 => k_is); (case a_7 => k_is)
    (case i_7 => k_is); (case l_7 => k_is); (case c_7 => k_is); (case k_7 => k_is); (case a_8 => k_is); (case i_8 => k_is)
    (case l_8 => k_is); (case c_8 => k_is); (case k_8 => k_is); (case a_9 => k_is); (case i_9 => k_is); (case l_9 => k_is)
    (case c_9 => k_is); (case k_9 => k_is); (case a_10 => k_is); (case i_10 => k_is); (case l_10 => k_is); (case c_10 => k_is)
    (case k_10 => k_is); (case a_11 => k_is); (case i_11 => k_is); (case l_11 => k_is); (case c_11 => k_is); (case k_11 => k_is)
    (case a_12 => k_is); (case i_12 => k_is); (case l_12 => k_is); (case c_12 => k_is); (case k_12 => k_is); (case pg => k_is)
    (case hd => k_is); (case po => k_is); (case sa => k_is); (case mkC => k_is); (case kc => k_is); (case pgD => k_is)
    (case hdD => k_is); (case poD => k_is); (case saD => k_is); (case mkD => k_is); (case kcD => k_is); (case nD0 => k_is)
    (case nD1 => k_is); (case nD2 => k_is); (case nD3 => k_is); (case xc => k_is); (case xn => k_is); (case xt => k_is)
    (case xm => k_is); (case nz => k_is); (case nl => k_is); (case lE => k_is); (case xb => k_is); (case xw => k_is)
    (case xd => k_is); (case xB => k_is); (case lB => k_is); (case xcD => k_is); (case xmD => k_is); (case xf => k_is)
    (case qn => k_is); (case qo => k_is); (case q0 => k_is); (case q1 => k_is); (case q2 => k_is); (case q3 => k_is)
    (case q4 => k_is); (case q5 => k_is); (case r0 => first | rfl | k_is); (case r1 => first | rfl | k_is); (case r2 => first | rfl | k_is); (case r3 => first | rfl | k_is)
    (case r4 => first | rfl | k_is); (case r5 => first | rfl | k_is); (case ic => k_is); (case tc => k_is); (case qnD => k_is); (case qoD => k_is)
    (case q0D => k_is); (case q1D => k_is); (case q2D => k_is); (case q3D => k_is); (case q4D => k_is); (case q5D => k_is)
    (case r0D => first | rfl | k_is); (case r1D => first | rfl | k_is); (case r2D => first | rfl | k_is); (case r3D => first | rfl | k_is); (case r4D => first | rfl | k_is); (case r5D => first | rfl | k_is)
    (case icD => k_is); (case tcD => k_is); (case sCD => k_is); (case sDC => k_is); (case sCC => first | rfl | k_is); (case sDD => first | rfl | k_is)
    (case xN => k_is); (case lN => k_is); (case n0 => k_is); (case v0 => k_is); (case v1 => k_is); (case v2 => k_is)
    (case v3 => k_is); (case v4 => k_is); (case z0 => k_is); (case z1 => k_is); (case z2 => k_is); (case z3 => k_is)
    (case z4 => k_is); (case z5 => k_is); (case z6 => k_is); (case z7 => k_is); (case z8 => k_is); (case z9 => k_is)
    (case z10 => k_is); (case z11 => k_is); (case z12 => k_is); (case zs => k_is)
