import PyProof.Rows.All
import Wide.All
import OpenK.AllK
import Wide.FinOn
import PyProof.StrReplace2
import KE.GoesEnum
import HandS.ForMost
import HandS.IsInst
import HandS.StrMore
import HandS.Star
import HandS.Defaults
import HandS.MakeKw
import HandS.MakeKwOnly
import HandS.Wide
import HandS.Walk
import HandS.SetTxt0
import HandS.ReplaceList
import HandS.Flow
import HandS.Codes
import HandS.SlotsOwn
import HandS.TryOnly
import HandS.ExcOwn
import HandS.WordsExc
import PyProof.ListStr
import HandS.ExcIs
import HandS.ReplaceLit
import HandS.ReplaceDef
import HandS.RaiseMore
import HandS.TupAny
import HandS.ExcInit
import HandS.ClsMeth
import HandS.SetKeys
import HandS.Strs
import PyProof.StrWalks
import HandS.ExcField
import KE.KExcIs
import PyProof.NeKinds
import HandS.Text
import HandS.ExcValue
import HandS.TryMany
import HandS.SuiteRaise
import HandS.RaiseFrom
import KE.KTryMore
import HandS.ExcInitHot
import HandS.Conv
import HandS.More
import HandS.Zip
import HandS.Style
import PyProof.Rows.RegStrFacts
import PySem.Challenge.RW_plaindoors_k13_doors_texts_refused
set_option Elab.async false
set_option linter.all false
set_option maxRecDepth 100000
namespace Pd
open PySem PySem.Spec PyProof.Rows L2
/-! powers of great ints, repeated texts -/
def CPowW (i j : Int) : Prop := 0 ≤ j ∧ (Builtin.Int.intBits i : Int) * j ≤ 2 ^ 27
section
variable {X : Cx}
theorem op_powW : OpR X (binaryOp .Pow) (rI CPowW fun i j => .int (i ^ j.toNat)) :=
  opI fun _ _ _ _ _ _ _ hc q => pow_int hc.1 hc.2 q
theorem op_mulS : OpR X (binaryOp .Mult) (fun x y H Q => ∃ a n, x = .str a ∧ y = .int n ∧ PySem.MulOk a n ∧ Q (.str (Txt.mul a n)) H) := by
  intro pins s σ H x y v u Q I rx ry h
  obtain ⟨a, n, rfl, rfl, ok, q⟩ := h
  obtain ⟨t, rfl⟩ := rx
  obtain ⟨t', rfl⟩ := ry
  exact PySem.SB.mul ok fun t2 k => ⟨.str _, H, I.tok k, ⟨t2, rfl⟩, q⟩
end
theorem bits_lt {i : Int} {a : Nat} (h : i.natAbs < 2 ^ a) (h0 : 0 < a) : Builtin.Int.intBits i ≤ a := by
  have x := PySem.Flt.log2_lt_of h0 h
  unfold Builtin.Int.intBits
  split <;> omega
theorem powW_ok {i j : Int} {a : Nat} (h : i.natAbs < 2 ^ a) (h0 : 0 < a) (hj : 0 ≤ j) (hj2 : j ≤ 16) (ha : a ≤ 100000) : CPowW i j := by
  refine ⟨hj, ?_⟩
  have e := bits_lt h h0
  have e2 : (Builtin.Int.intBits i : Int) ≤ 100000 := by omega
  have e3 : (0:Int) ≤ (Builtin.Int.intBits i : Int) := by omega
  have : (Builtin.Int.intBits i : Int) * j ≤ 100000 * 16 := Int.mul_le_mul e2 hj2 hj (by omega)
  omega
end Pd

namespace Pd
open PySem PySem.Spec PyProof.Rows L2
/-! ### a set made of a text whose signs are all plain and distinct -/
abbrev freshSet (led : Bool) : Obj := { cls := .type "set", dict := none, data := .set #[] 0 (.fresh 0 0 led) }
theorem sub_ss : isSubtype (.type "str") (.type "set") = pure false := by rw [isSubtype_type]; kernel_rfl
theorem sub_sf : isSubtype (.type "str") (.type "frozenset") = pure false := by rw [isSubtype_type]; kernel_rfl
theorem run_txok {P : Program} {w : World} : ∀ (cs : List Nat) (tk : Tok) (D : Froz.SD) (l : List Str), Froz.TxOk P w D l →
    ∃ m, m.length = cs.length + l.length ∧ Froz.TxOk P w (Froz.runD w cs tk D) m
  | [], _, _, l, F => ⟨l, (Nat.zero_add _).symm, F⟩
  | c :: r, tk, D, l, F => by
    obtain ⟨m, hm, G⟩ := run_txok r (tk + 2) _ _ (Froz.add_ok (k := Froz.sing c) tk F)
    exact ⟨m, by rw [hm, List.length_cons, List.length_cons]; omega, G⟩
section
variable {prog : Program} {w : World} {A : Around} {E : Value → Shared → Prop} {s : Shared}
/-- what such a set is, as far as its length goes -/
def TxtSet (h : Heap) (a : Addr) (n : Nat) : Prop :=
  ∃ D : Froz.SD, h.get? a = some (Froz.sObj "set" D) ∧ D.2.2.fits D.1.size = true ∧ D.1.size = n
set_option maxHeartbeats 6400000 in
theorem set_of_text {x : Str} {t : Tok} {Q : Value → Shared → Prop} (hh : A.handled = none) (ha : x.cps.all (· < 128) = true)
    (hd : x.cps.toList.Nodup) (hb : x.cps.toList.length < scanBound)
    (hq : ∀ (g : Heap) (tk : Nat), TxtSet g s.heap.objs.size x.cps.toList.length →
      (∀ b o, s.heap.get? b = some o → g.get? b = some o) → Q (.ref s.heap.objs.size) { s with heap := g, toks := tk }) :
    wpAny (model prog w) A (call (.type "set") [.str x t]) Q E s := by
  obtain ⟨c, tl, hmro⟩ := PySem.F.called_set.mro
  have made := PySem.F.called_set.made
  have subs := PySem.F.called_set.sub
  refine wpAny_call (codeAny_of_tree ?_)
  show wpAny _ _ (callAny (.type "set") _) _ _ _
  refine wpAny_pure ⟨Code.quiet_builtin _ (by decide +kernel), codeAny_builtin PySem.F.entry_type_call ?_⟩
  rw [Around.under_plain (weight_type_call_type "set" [.str x t] []) rfl]
  have nt := PySem.F.called_set.notType
  have cc := PySem.F.called_set.canCreate
  have tc := PySem.F.typeCall_set_1 (.str x t)
  repeat (any_goals (first | assumption | wp_step))
  refine codeAny_mono (code_set_new_1 (.str x t) (E := E) (Q₁ := fun ob s1 => ∃ led, ob = .ref s.heap.objs.size ∧ s1 = { s with heap := s.heap.push (freshSet led) }) fun led => ⟨led, rfl, rfl⟩) fun r s1 hr => ?_
  cases r with
  | error e => exact hr
  | ok fl =>
    cases fl with
    | next => exact hr.elim
    | brk => exact hr.elim
    | cont => exact hr.elim
    | ret ob =>
      obtain ⟨led, rfl, rfl⟩ := hr
      have gS : (s.heap.push (freshSet led)).get? s.heap.objs.size = some (freshSet led) := Heap.get?_push_size _ rfl
      have tS : Shared.TypeIs { s with heap := s.heap.push (freshSet led) } (.ref s.heap.objs.size) "set" := ⟨_, gS, rfl⟩
      have li := PySem.F.called_set.init.lookup
      have bi := PySem.F.called_set.init.bind (.ref s.heap.objs.size)
      repeat (any_goals (first | assumption | wp_step))
      refine codeAny_mono (codeAny_call_builtin (R := wants (fun r s2 => r = .none ∧ ∃ g tk, s2 = { s with heap := g, toks := tk } ∧
          TxtSet g s.heap.objs.size x.cps.toList.length ∧ (∀ b o, s.heap.get? b = some o → g.get? b = some o)) E)
          PySem.F.called_set.init.plain PySem.F.entry_set_init (check_set_init_1 tS ?_)) fun r2 s2 h2 => ?_
      · have s1 := sub_ss
        have s3 := sub_sf
        have tT : Shared.TypeIs { s with heap := s.heap.push (freshSet led) } (.str x t) "str" := typeIs_str _ _ _
        have ne : (Value.type "str" == Value.type "dict") = false := by decide
        unfold Builtin.«set.__init__» noKeywords Builtin.Frozenset.updateFrom
        generalize hPI : pyIter = PI
        wp_walk
        subst hPI
        refine wpAny_pyIter_ascii ha ?_
        refine wpAny_bind (wpAny_runValue ?_)
        have e1 : (s.heap.push (freshSet led)).objs.size = s.heap.objs.size + 1 := Heap.size_push _ _
        have hne : s.heap.objs.size ≠ (s.heap.push (freshSet led)).objs.size := by omega
        have g1 : ∀ o2, ((s.heap.push (freshSet led)).push o2).get? s.heap.objs.size = some (Froz.sObj "set" (#[], 0, .fresh 0 0 led)) := fun o2 => Heap.get?_push_of_some _ gS
        have g2 : ((s.heap.push (freshSet led)).push (Froz.itObj x t 0)).get? (s.heap.push (freshSet led)).objs.size = some (Froz.itObj x t 0) := Heap.get?_push_size _ rfl
        obtain ⟨m, hm, TX⟩ := run_txok (P := prog) (w := w) x.cps.toList s.toks _ _ (Froz.TxOk.nil (ep := 0) (t := .fresh 0 0 led) rfl)
        refine Froz.code_update (P := prog) (w := w) (l := []) (D := (#[], 0, .fresh 0 0 led)) hne (by exact hh) x.cps.toList 0 _ rfl (g1 _) g2 (Froz.TxOk.nil rfl) (fun _ _ => List.not_mem_nil) hd (by simpa using hb) ?_
        refine wpAny_pure (wpAny_pure ⟨rfl, _, _, rfl, ⟨Froz.runD w x.cps.toList s.toks (#[], 0, .fresh 0 0 led), ?_, TX.fit, ?_⟩, fun b o q => ?_⟩)
        · refine Heap.get?_push_of_some _ (Heap.get?_push_of_some _ ?_)
          unfold Froz.two
          exact PySem.Heap.get?_update_of_ne _ hne.symm (Froz.get_upd _ (g1 _) rfl)
        · rw [TX.sz, hm]; rfl
        · have hb1 : b < s.heap.objs.size := Heap.lt_size q
          have b2 : (s.heap.push (freshSet led)).objs.size ≠ b := by rw [e1]; exact Nat.ne_of_gt (Nat.lt_succ_of_lt hb1)
          have b3 : s.heap.objs.size ≠ b := Nat.ne_of_gt hb1
          refine Heap.get?_push_of_some _ (Heap.get?_push_of_some _ ?_)
          unfold Froz.two
          exact PySem.Heap.get?_update_of_ne _ b2 (PySem.Heap.get?_update_of_ne _ b3 (Heap.get?_push_of_some _ (Heap.get?_push_of_some _ q)))
      · cases r2 with
        | error e => exact h2
        | ok f2 =>
          cases f2 with
          | next => exact h2.elim
          | brk => exact h2.elim
          | cont => exact h2.elim
          | ret r =>
            obtain ⟨rfl, g, tk, rfl, hS, hk⟩ := h2
            repeat (any_goals (first | assumption | wp_step))
            exact hq _ _ hS hk
end
/-- len(set(e)), e a text of plain and distinct signs -/
def tLenSetS (ta : TE) : TE := fun σ H Q => ta σ H fun v H1 => ∃ x : Str, v = .str x ∧ x.cps.all (· < 128) = true ∧ x.cps.toList.Nodup ∧ x.cps.toList.length ≤ 1000 ∧ Q (.int (x.cps.toList.length : Nat)) H1
theorem pe_lenSetS {X : Cx} {a : Expr} {ta : TE} {p p2 q pos : Pos} (hc : X.calm = true) (hg : Gl X "len") (hm : X.mg "len" = none) (hg2 : Gl X "set") (hm2 : X.mg "set" = none) (ha : PE X a ta)
    (na : starEach [a] X.env = (false, eval a X.env) :: starEach [] X.env := by rfl) : PE X (.Call (.Name "len" p) [.Call (.Name "set" p2) [a] [] q] [] pos) (tLenSetS ta) := by
  constructor
  intro pins s σ H Q I h
  apply Call_ (ld_blt I hg hm boot_len _)
  refine PyProof.Rows.callWith_builtin1 (PyProof.Rows.args_cons (Call_ (ld_blt I hg2 hm2 boot_set ?_)) rfl) rfl rfl
  refine PyProof.Rows.callWith_type1 (PyProof.Rows.args_cons (thn (ha.run pins s σ H _ I h) ?_) na) na rfl
  rintro v s1 ⟨y, H1, I1, r1, x, rfl, hx, hn, hl, q1⟩
  obtain ⟨t, rfl⟩ := r1
  refine PyProof.Rows.args_nil (set_of_text (I1.ok.hd hc) hx hn (Nat.lt_of_le_of_lt hl (by unfold scanBound; omega)) fun g tk hS hk => PyProof.Rows.args_nil ?_)
  obtain ⟨D, h1, h2, h3⟩ := hS
  have I2 : Inv X pins σ H1 { s1 with heap := g, toks := tk } := I1.kept hk
  exact call_len_set h1 ⟨rfl, rfl, rfl⟩ rfl h2 (by omega) ⟨.int _, H1, I2.tok _, ⟨_, by rw [h3]⟩, q1⟩
end Pd

namespace Pd
open PySem PySem.Spec PyProof.Rows L2
/-! ### no reader has booked a token -/
theorem unbooked {X : Cx} {pins : List (Addr × Obj)} {σ : L2.St} {H : Hp} {s : Shared} (b : NoneBooked X.base) (I : Inv X pins σ H s) : NoneBooked s.heap :=
  let ⟨mc, h1, h2⟩ := b
  ⟨mc, h1.keeps I.bk, h2⟩
theorem tkE {α : Type} {M : Model} {A : Around} {t : Sem α} {Q : α → Shared → Prop} {E : Value → Shared → Prop} {s : Shared} {n : Nat} (hn : n ≤ s.toks) (h : wpAny M A t Q E s) :
    wpAny M A t (fun a s' => n ≤ s'.toks ∧ Q a s') E s := wpAny_mono (PySem.wpAny_toks_of hn h) (fun _ _ q => q) fun _ _ q => q.2
/-! ### texts whose token is new -/
def Frsh (n m : Nat) (u : Value) : Prop := ∃ x t, u = .str x t ∧ n ≤ t ∧ t < m
structure PEF (X : Cx) (e : Expr) (t : TE) : Prop where
  run : ∀ (pins : List (Addr × Obj)) (s : Shared) (σ : L2.St) (H : Hp) (Q : VK), Inv X pins σ H s → t σ H Q →
    wpAny (model X.prog X.w) X.A (eval e X.env) (fun u s' => EP X pins σ Q u s' ∧ s.toks ≤ s'.toks ∧ Frsh (s.toks + 1) s'.toks u) X.xe s
theorem PEF.pe {X : Cx} {e : Expr} {t : TE} (h : PEF X e t) : PE X e t := ⟨fun pins s σ H Q I q => thn (h.run pins s σ H Q I q) fun _ _ z => z.1⟩
/-- a written text at a reckoned place -/
def tItemC (z : Str) (tb : TE) : TE := fun σ H Q => tb σ H fun y H2 => ∃ (i : Int) (c : Nat), y = .int i ∧ 0 ≤ i ∧ i < z.length ∧ z.length ≤ 1000 ∧ z.cps[i.toNat]? = some c ∧ Q (.str ⟨#[c]⟩) H2
theorem pef_item {X : Cx} {z : Str} {j : Nat} {cp pos : Pos} {b : Expr} {tb : TE} (hb : PE X b tb) (hs : PlainIxT b) : PEF X (.Subscript (.Constant (.str z) j cp) b pos) (tItemC z tb) := by
  constructor
  intro pins s σ H Q I h
  refine Subscript_ (Calls.Constant_str ?_)
  have I1 : Inv X pins σ H { s with toks := s.toks + 1 } := I.tok _
  refine thn (tkE (n := s.toks + 1) (Nat.le_refl _) (hb.run pins _ σ H _ I1 h)) ?_
  rintro u s2 ⟨ht, y, H2, I2, ry, i, c, rfl, h0, h1, hz, hc, q⟩
  obtain ⟨t, rfl⟩ := ry
  have e : seqIndex? i z.length = some i.toNat := PySem.StrLaws.seqIndex_nonneg h0 h1
  refine tail_any (typeIs_str s2 z s.toks) slot_str_getitem.lookup (getItem_str (c := c) ?_ (by rw [e]; exact hc) ⟨⟨.str ⟨#[c]⟩, H2, I2.tok _, ⟨_, rfl⟩, q⟩, ?_, _, _, rfl, ht, ?_⟩) (hs _ _)
  · rw [decide_eq_false (by omega), decide_eq_false (by omega)]; rfl
  · show s.toks ≤ s2.toks + 1; omega
  · show s2.toks < s2.toks + 1; omega
/-- a name of the frame, its value raw -/
structure Holds (X : Cx) (s : Shared) (x : Str) (u : Value) : Prop where
  kd : X.env.kindOf x = some .local
  at_ : ∃ m, s.heap.Ns X.env.locals m ∧ m x = some u
theorem Holds.tok {X : Cx} {s : Shared} {x : Str} {u : Value} (h : Holds X s x u) (k : Nat) : Holds X { s with toks := k } x u := ⟨h.kd, h.at_⟩
theorem Holds.load {X : Cx} {pins : List (Addr × Obj)} {σ : L2.St} {H : Hp} {s : Shared} {x : Str} {u : Value} {pos : Pos} {Q E : Value → Shared → Prop} (h : Holds X s x u) (I : Inv X pins σ H s) (q : Q u s)
    (hd : (x == ("__debug__" : Str)) = false := by decide) : wpAny (model X.prog X.w) X.A (eval (.Name x pos) X.env) Q E s := by
  obtain ⟨m, hn, hm⟩ := h.at_
  exact wpAny_Name (wpAny_loadName_local I.ok.kind h.kd hn hm q) hd
/-- a local name is stored, and its value is known -/
theorem store_raw {X : Cx} {pins : List (Addr × Obj)} {σ : L2.St} {H : Hp} {s : Shared} {M : Model} {A : Around} {E : Value → Shared → Prop} {i : Nat} {x : Str} {v : V} {u : Value} {Q : Unit → Shared → Prop}
    (I : Inv X pins σ H s) (hN : X.N.Nodup) (hi : X.N[i]? = some x) (hx : X.env.scope.names.lookup x = some .local) (r : RelV v u)
    (h : ∀ s', Inv X pins (σ.set i (some v)) H s' → Holds X s' x u → (∀ y w, y ≠ x → Holds X s y w → Holds X s' y w) → s.toks ≤ s'.toks → Q () s') : wpAny M A (storeName X.env x u) Q E s := by
  obtain ⟨m, hn, hl⟩ := id I.loc
  have hcls : (X.env.scope.kind == .class || (X.env.scope.kind == .module && X.env.locals != X.env.globals)) = false := by rw [I.ok.kind]; rfl
  have hk : X.env.kindOf x = some .local := hx
  obtain ⟨oL, _, _, hoL, _⟩ := id hn
  have hiσ : i < σ.length := by rw [I.len]; exact (List.getElem?_eq_some_iff.mp hi).1
  refine wpAny_storeName_local hk hn (fun g hg sb => ?_) hcls
  have oldL : ∀ {b o}, X.s_0.heap.get? b = some o → b ≠ X.env.locals := fun e => Nat.ne_of_lt (Nat.lt_of_lt_of_le (Heap.lt_size e) I.ok.above)
  have hok : HOk X.prog X.w H g := fun b ob e => by
    refine (I.hok b ob e).stay (fun c w' hc q => (sb.2 c ?_).trans q) (fun _ q => q) fun _ _ q => q
    rintro rfl
    rcases hc with rfl | hc
    · rw [I.free] at e; cases e
    · rw [I.free] at hc; cases hc
  have I' : Inv X pins (σ.set i (some v)) H { s with heap := g, toks := s.toks + 1 } := by
    refine ⟨I.ok, I.os, I.bare, ⟨?_, ?_, I.base.free, ?_, I.base.tups, I.base.frzs, I.base.tbls⟩, ⟨_, hg, ?_⟩, ?_, I.free, I.freeC, ?_, hok, by simpa using I.len⟩
    · intro b o e n hb hx'
      exact (sb.2 b (oldL e)).trans (I.base.keep b o e n hb hx')
    · intro b o e n hb hx'
      obtain ⟨sl, e1⟩ := I.base.slot b o e n hb hx'
      exact ⟨sl, (sb.2 b (oldL e)).trans e1⟩
    · intro b o e hx'
      obtain ⟨o', e1⟩ := I.base.there b o e hx'
      exact ⟨o', (sb.2 b (oldL e)).trans e1⟩
    · intro j y v' e1 e2 e3
      by_cases hj : j = i
      · subst hj
        rw [hi] at e1; cases e1
        rw [List.getElem?_set_self hiσ] at e2
        cases e2
        exact ⟨u, r, .inl ⟨hk, by simp⟩⟩
      · rw [List.getElem?_set_ne (Ne.symm hj)] at e2
        obtain ⟨u', r', q⟩ := hl j y v' e1 e2 e3
        refine ⟨u', r', ?_⟩
        rcases q with ⟨k, e⟩ | ⟨k, c, e, z⟩
        · refine .inl ⟨k, ?_⟩
          have nyx : y ≠ x := fun e' => hj (nodup_ix hN e1 (e' ▸ hi))
          simp [nyx, e]
        · exact .inr ⟨k, c, e, z.sameBut sb (I.cne y c e)⟩
    · intro y c e
      obtain ⟨w', z⟩ := I.cell y c e
      exact ⟨w', z.sameBut sb (I.cne y c e)⟩
    · intro p hp
      obtain ⟨e, n, ne, nf, d⟩ := I.pin p hp
      exact ⟨(sb.2 p.1 ne).trans e, n, ne, nf, d⟩
  refine h _ I' ⟨hk, _, hg, by simp⟩ (fun y w ny hy => ?_) (Nat.le_succ _)
  obtain ⟨m', hn', hm'⟩ := hy.at_
  obtain ⟨od, es, ep, h1, h2, h3, h4⟩ := id hn
  obtain ⟨od', es', ep', h1', h2', h3', h4'⟩ := id hn'
  rw [h1] at h1'; cases h1'
  rw [h2] at h2'; cases h2'
  refine ⟨hy.kd, _, hg, ?_⟩
  have : m y = some w := by rw [← hm', ← h4 y, ← h4' y]
  simp [ny, this]
/-! ### lists of texts of unlike tokens -/
/-- the texts cs, their tokens all in n .. m and unlike -/
inductive TkL : Nat → Nat → List Str → List Value → Prop where
  | nil {n m : Nat} (h : n ≤ m) : TkL n m [] []
  | cons {n k m : Nat} {c : Str} {t : Nat} {cs : List Str} {us : List Value} (h1 : n ≤ t) (h2 : t < k) (r : TkL k m cs us) : TkL n m (c :: cs) (.str c t :: us)
theorem TkL.le : ∀ {n m : Nat} {cs : List Str} {us : List Value}, TkL n m cs us → n ≤ m
  | _, _, _, _, .nil h => h
  | _, _, _, _, .cons h1 h2 r => Nat.le_trans (Nat.le_of_lt (Nat.lt_of_le_of_lt h1 h2)) r.le
theorem TkL.low {n n' m : Nat} {cs : List Str} {us : List Value} (h : TkL n m cs us) (l : n' ≤ n) : TkL n' m cs us := by
  cases h with
  | nil h => exact .nil (Nat.le_trans l h)
  | cons h1 h2 r => exact .cons (Nat.le_trans l h1) h2 r
theorem TkL.app : ∀ {n m p : Nat} {cs ds : List Str} {us vs : List Value}, TkL n m cs us → TkL m p ds vs → TkL n p (cs ++ ds) (us ++ vs)
  | _, _, _, _, _, _, _, .nil h, r => r.low h
  | _, _, _, _, _, _, _, .cons h1 h2 q, r => .cons h1 h2 (q.app r)
theorem TkL.vals : ∀ {n m : Nat} {cs : List Str} {us : List Value}, TkL n m cs us → Vals (cs.map V.str) us
  | _, _, _, _, .nil _ => .nil
  | _, _, _, _, .cons _ _ r => .cons ⟨_, rfl⟩ r.vals
/-- what stands at a place -/
theorem TkL.get : ∀ {n m : Nat} {cs : List Str} {us : List Value} {i : Nat} {c : Str}, TkL n m cs us → cs[i]? = some c → ∃ t, us[i]? = some (.str c t) ∧ n ≤ t ∧ t < m
  | _, _, _, _, _, _, .nil _, e => by simp at e
  | _, _, _, _, 0, _, .cons h1 h2 r, e => by
    simp at e; subst e
    exact ⟨_, by simp, h1, Nat.lt_of_lt_of_le h2 r.le⟩
  | _, _, _, _, i + 1, _, .cons h1 h2 r, e => by
    obtain ⟨t, e1, e2, e3⟩ := r.get (i := i) (by simpa using e)
    exact ⟨t, by simpa using e1, Nat.le_trans (Nat.le_of_lt (Nat.lt_of_le_of_lt h1 h2)) e2, e3⟩
theorem TkL.get_ge : ∀ {n m : Nat} {cs : List Str} {us : List Value} {i : Nat} {c : Str} {t : Nat}, TkL n m cs us → us[i]? = some (.str c t) → n ≤ t
  | _, _, _, _, _, _, _, .nil _, e => by simp at e
  | _, _, _, _, 0, _, _, .cons h1 h2 r, e => by
    simp at e
    obtain ⟨_, rfl⟩ := e
    exact h1
  | _, _, _, _, i + 1, _, _, .cons h1 h2 r, e => Nat.le_trans (Nat.le_of_lt (Nat.lt_of_le_of_lt h1 h2)) (TkL.get_ge r (i := i) (by simpa using e))
theorem TkL.inj : ∀ {n m : Nat} {cs : List Str} {us : List Value} {i j : Nat} {c d : Str} {t : Nat}, TkL n m cs us → us[i]? = some (.str c t) → us[j]? = some (.str d t) → c = d
  | _, _, _, _, _, _, _, _, _, .nil _, e, _ => by simp at e
  | _, _, _, _, 0, 0, _, _, _, .cons _ _ _, e, f => by
    simp at e f
    exact e.1.symm.trans f.1
  | _, _, _, _, 0, j + 1, _, _, _, .cons (k := k) h1 h2 r, e, f => by
    simp at e f
    obtain ⟨_, rfl⟩ := e
    exact absurd (Nat.lt_of_lt_of_le h2 (r.get_ge f)) (Nat.lt_irrefl _)
  | _, _, _, _, i + 1, 0, _, _, _, .cons h1 h2 r, e, f => by
    simp at e f
    obtain ⟨_, rfl⟩ := f
    exact absurd (Nat.lt_of_lt_of_le h2 (r.get_ge e)) (Nat.lt_irrefl _)
  | _, _, _, _, i + 1, j + 1, _, _, _, .cons h1 h2 r, e, f => r.inj (by simpa using e) (by simpa using f)
/-- a list of texts whose tokens are known to be unlike, and none the first -/
def TxtsAt (H : Hp) (a : Addr) (cs : List Str) : Prop :=
  ∃ (its : List Value) (n m k : Nat), H a = some (.frz { cls := .type "list", data := .seq its.toArray n } (.lst (cs.map V.str))) ∧ TkL m k cs its ∧ 1 ≤ m
theorem TxtsAt.seq {K : PySem.W.Frag} {H : Hp} {a : Addr} {cs : List Str} (h : TxtsAt H a cs) : SqL K H a (cs.map V.str) := by
  obtain ⟨its, n, m, k, e, _⟩ := h
  exact .inl (.inr ⟨_, e⟩)
theorem TxtsAt.same {H H' : Hp} {a : Addr} {cs : List Str} (h : TxtsAt H a cs) (e : H' a = H a) : TxtsAt H' a cs := by
  obtain ⟨its, n, m, k, e1, r⟩ := h
  exact ⟨its, n, m, k, e.trans e1, r⟩
/-! ### a step that swaps: its two texts' tokens are good for replace -/
def SwapAt (H : Hp) (p : Addr) (a b : Str) : Prop :=
  ∃ (n : Nat) (t0 t u : Tok), H p = some (.frz { cls := .type "tuple", data := .seq #[.str "swap" t0, .str a t, .str b u] n } (.tup [.str "swap", .str a, .str b])) ∧ t ≠ 0 ∧ u ≠ 0 ∧ (t = u → a = b)
theorem SwapAt.seq {K : PySem.W.Frag} {H : Hp} {p : Addr} {a b : Str} (h : SwapAt H p a b) : SqT K H p [.str "swap", .str a, .str b] := by
  obtain ⟨n, t0, t, u, e, _⟩ := h
  exact .inl (.inr ⟨_, e⟩)
theorem SwapAt.same {H H' : Hp} {p : Addr} {a b : Str} (h : SwapAt H p a b) (e : ∀ o u, H p = some (.frz o u) → H' p = some (.frz o u)) : SwapAt H' p a b := by
  obtain ⟨n, t0, t, u, e1, r⟩ := h
  exact ⟨n, t0, t, u, e _ _ e1, r⟩
/-- replace, whatever the tokens are -/
theorem replace_all {prog : Program} {w : World} {A : Around} {E : Value → Shared → Prop} {s : Shared} {x y z : Str} {t u v : Tok} {Q : Value → Shared → Prop} (hnb : NoneBooked s.heap) (hu : u ≠ 0) (hv : v ≠ 0) (huv : u = v → y = z)
    (hb : x.length + (x.length + 1) * z.length ≤ 16777216) (hq : ∀ t' k, Q (.str (Txt.replace x y z) t') { s with toks := k }) :
    wpAny (model prog w) A (call (.builtin "str.replace") [.str x t, .str y u, .str z v]) Q E s := by
  by_cases e : u = v
  · obtain rfl := huv e
    subst e
    have same : isSame (.str y u) (.str y u) = pure true := by
      show (if (u == 0 || u == 0) = true then _ else if (u == u) = true then pure true else _ : Sem Bool) = _
      rw [beq_eq_false_iff_ne.mpr hu, beq_self_eq_true u]
      rfl
    have g : Gives (Builtin.«str.replace» ⟨[.str x t, .str y u, .str y u], []⟩) (.val (.str x t)) := by
      show Gives (if ((Builtin.Str.occurrences x y 0 x.length (x.length + 1)).isEmpty || (y.length == 0 && y.length == 0)) = true then (do rule "str.replace.nothing"; ret (.str x t)) else
          (do let same ← isSame (.str y u) (.str y u)
              if same = true then (do rule "str.replace.old-is-new"; ret (.str x t)) else
              if Builtin.Str.tooLong (x.length + (Builtin.Str.occurrences x y 0 x.length (x.length + 1)).length * y.length) = true then unsupported "str.replace:memory" else
              retStr (Builtin.Str.glued y (Builtin.Str.partsBetween x (Builtin.Str.occurrences x y 0 x.length (x.length + 1)) y.length)))) _
      rw [same]
      cases ((Builtin.Str.occurrences x y 0 x.length (x.length + 1)).isEmpty || (y.length == 0 && y.length == 0))
      · exact .rule (.of_eq rfl)
      · exact .rule (.of_eq rfl)
    refine call_gives PySem.F.slot_str_replace (typeIs_str _ _ _) PySem.F.entry_str_replace (PySem.F.args_str_replace_3 _ _ _) g ?_
    have q := hq t s.toks
    rw [Txt.replace_self] at q
    exact q
  · exact PySem.SC.replaceA hu hv e hb hq hnb
end Pd

namespace Pd
open PySem PySem.Spec PyProof.Rows L2
/-! ### enumerate of a tuple -/
set_option maxHeartbeats 1000000 in
theorem meets_enum1 {v : Value} {o : Obj} {B : Heap → Prop} (b : Begins v o B) :
    Meets (Builtin.«enumerate.__new__» ⟨[.type "enumerate", v], []⟩) (fun _ R s => B s.heap ∧
      R (.ok (.ret (.ref (s.heap.push o).objs.size))) { s with heap := (s.heap.push o).push { cls := .type "enumerate", data := .fields #[.none, .bool false, .ref s.heap.objs.size, rawInt 0, .none, .none] } }) :=
  .of_wp fun prog w A R s h => by
    obtain ⟨hp, g, d, tk, os⟩ := s
    obtain ⟨h1, h2⟩ := h
    have hsub := sub_enumerate
    have it1 : ∀ {A' : Around} {E : Value → Shared → Prop} {Q : Value → Shared → Prop}, Q (.ref hp.objs.size) ⟨hp.push o, g, d, tk, os⟩ → wpAny (model prog w) A' (pyIter v) Q E ⟨hp, g, d, tk, os⟩ :=
      fun q => b.iter prog w _ _ ⟨hp, g, d, tk, os⟩ _ h1 q
    wp_walk using it1
    refine wpAny_stack_any fun st => wpAny_pure ?_
    split
    · rename_i c _ _ _ _ _
      cases (c == Value.type "enumerate")
      · wp_walk using it1
        exact ⟨_, rfl, h2⟩
      · wp_walk using it1
        exact ⟨_, rfl, h2⟩
    · wp_walk using it1
      exact ⟨_, rfl, h2⟩
theorem call_enum1 {prog : Program} {w : World} {A : Around} {E : Value → Shared → Prop} {s : Shared} {v : Value} {o : Obj} {B : Heap → Prop} {Q : Value → Shared → Prop} (b : Begins v o B) (h1 : B s.heap)
    (h : ∀ g, IsEnum g (s.heap.objs.size + 1) s.heap.objs.size 0 .none → g.get? s.heap.objs.size = some o →
      (∀ b o, s.heap.get? b = some o → g.get? b = some o) → Q (.ref (s.heap.objs.size + 1)) { s with heap := g }) :
    wpAny (model prog w) A (call (.type "enumerate") [v]) Q E s := by
  refine callType_new F.called_enumerate (by decide) (F.typeCall_enumerate_1 _) (F.newCall_enumerate_1 _) (fun obj => F.args_object_init_2 obj _) F.entry_enumerate_new (meets_enum1 b) ⟨h1, ?_⟩
  have z : (s.heap.push o).objs.size = s.heap.objs.size + 1 := Heap.size_push ..
  show _ ∧ _
  rw [z]
  have he := Heap.get?_push_size (s.heap.push o) (o := { cls := .type "enumerate", data := .fields #[.none, .bool false, .ref s.heap.objs.size, rawInt 0, .none, .none] }) rfl
  rw [z] at he
  exact ⟨⟨_, he, rfl⟩, h _ he (Heap.get?_push_of_some _ (Heap.get?_push_size _ b.free)) fun b o x => Heap.get?_push_of_some _ (Heap.get?_push_of_some _ x)⟩
def ItE (K : PySem.W.Frag) (a : Addr) : It :=
  ⟨fun i H => ∃ (xs : List V) (x : V), SqT K H a xs ∧ xs[i]? = some x, fun i H v H' => ∃ T x, v = .ref T ∧ H T = none ∧ H' = upd H T (.tup [.int (i : Nat), x]) ∧ ∀ xs, SqT K H a xs → xs[i]? = some x, fun i H => ∃ xs : List V, SqT K H a xs ∧ xs.length = i⟩
theorem turn_enumT {P : Program} {w : World} {K : PySem.W.Frag} {elts : List Expr} {kk : Nat} {tpos : Pos} (a e it : Addr) :
    Turn P w K (.Tuple elts kk tpos) (ItE K a) [e, it] e (fun i h => (∃ old, IsEnum h e it ((i : Nat) : Int) old) ∧ h.IsTupleIter it a i ∧ e ≠ it ∧ a ≠ it ∧ e ≠ a) where
  mem := by simp
  obj := fun i h st b hb => by
    obtain ⟨⟨old, he⟩, ⟨o, ho, hc, hd⟩, _⟩ := st
    have z : b = e ∨ b = it := by simpa using hb
    rcases z with rfl | rfl
    · exact ⟨_, he, fun v q => nomatch q⟩
    · exact ⟨o, ho, fun v q => by rw [hd] at q; cases q⟩
  keep := fun i h h' st k => let ⟨⟨old, he⟩, hi, hne⟩ := st; ⟨⟨old, k e (by simp) _ he⟩, hi.at fun o q => k it (by simp) o q, hne⟩
  item := by
    intro X hP hw hK hc i pins s σ H E I hf st hg
    subst hP hw hK
    obtain ⟨⟨old, he⟩, hit, hne, hai, hea⟩ := st
    obtain ⟨xs, x, hq, hx⟩ := hg
    obtain ⟨its, rv, p, hz⟩ := I.tuple hq
    obtain ⟨u, hu, ru⟩ := rv.get hx
    have hel : e < s.heap.objs.size := Heap.lt_size he
    have hil : it < s.heap.objs.size := by obtain ⟨_, q, _⟩ := hit; exact Heap.lt_size q
    have lt : i < its.toArray.size := by
      have := (List.getElem?_eq_some_iff.mp hu).1
      simpa using this
    refine wpAny_pyNext_enum_itemD (Draws.tuple (prog := X.prog) (w := X.w) (A := X.A.in1) (by exact I.ok.hd hc) it a hai its.toArray) he ⟨hit, p⟩ lt hne (by simp [hne, hea]) fun y g tk hy ho st' hT hsz hk => ?_
    have ey : y = u := by
      have : its[i]? = some y := by simpa using hy
      rw [hu] at this
      exact (Option.some.inj this).symm
    subst ey
    refine ⟨_, rfl, wpAny_letOwnedTupleGo_enum (s := { s with heap := g, toks := tk + 1 }) ho fun g2 he' sb => ?_⟩
    have hT2 : g2.get? s.heap.objs.size = some { cls := .type "tuple", data := .seq #[.int i tk, y] } := (sb.2 _ (Nat.ne_of_gt hel)).trans hT
    have new : ObjOk X.prog X.w (upd H s.heap.objs.size (.tup [.int (i : Nat), x])) g2 s.heap.objs.size (.tup [.int (i : Nat), x]) :=
      ⟨by show 2 ≤ sizeLine; decide, [.int i tk, y], .cons ⟨_, rfl⟩ (.cons ru .nil), ⟨_, hT2, rfl, _, rfl⟩⟩
    have I1 : Inv X pins σ (upd H s.heap.objs.size (.tup [.int (i : Nat), x])) { s with heap := g2, toks := tk + 1 } :=
      I.turnedNew (ch := [e, it]) (fun b ob hb q => (sb.2 b (fun z => hb (by simp [z]))).trans (hk b ob (fun z => hb (by simp [z])) (fun z => hb (by simp [z])) q)) hf (Nat.le_refl _) new
    refine ⟨.ref s.heap.objs.size, _, I1, rfl, ⟨_, x, rfl, I.hok.fresh (Nat.le_refl _), rfl, fun ys hy => by rw [I.tuple_inj hy hq]; exact hx⟩, ⟨⟨y, ?_⟩, st'.1.at fun o q => (sb.2 it (Ne.symm hne)).trans q, hne, hai, hea⟩, fun b hb => ?_⟩
    · have e1 : ((i + 1 : Nat) : Int) = (i : Int) + 1 := by omega
      rw [e1]; exact he'
    · have hb' : b < s.heap.objs.size := by
        have z : b = e ∨ b = it := by simpa using hb
        rcases z with rfl | rfl
        · exact hel
        · exact hil
      rw [upd_ne (Nat.ne_of_lt hb')]
      exact (hf b hb).1
  done := by
    intro X hP hw hK hc i pins s σ H E I hf st hg
    subst hP hw hK
    obtain ⟨⟨old, he⟩, hit, hne, hai, hea⟩ := st
    obtain ⟨xs, hq, hx⟩ := hg
    obtain ⟨its, rv, p, hz⟩ := I.tuple hq
    obtain ⟨f0, f1, f2, f3, f4, f5⟩ := hf it (by simp)
    have hl : its.toArray.size = i := by rw [List.size_toArray, ← rv.length, hx]
    refine wpAny_pyNext_enum_endD (i := ((i : Nat) : Int)) (Draws.tuple (prog := X.prog) (w := X.w) (A := X.A.in1) (by exact I.ok.hd hc) it a hai its.toArray) he (by rw [hl]; exact ⟨hit, p⟩) fun g eb => ⟨rfl, I.turned (t' := s.toks) (fun b o hb q => eb b o hb q) f0 f1 f3 f4 f5⟩
  self := fun A i s Q E st h => let ⟨⟨_, he⟩, _⟩ := st; wpAny_pyIter_enum he h
def iEnumT (K : PySem.W.Frag) (ta : TA) : TI := fun σ H R => ta σ H fun vs H1 => ∃ a xs, vs = [.ref a] ∧ SqT K H1 a xs ∧ R (ItE K a) H1
theorem pi_enumT {X : Cx} {e : Expr} {ta : TA} {p pos tpos : Pos} {elts : List Expr} {kk : Nat} (hg : Gl X "enumerate") (hm : X.mg "enumerate" = none) (ha : PA X [e] ta) (hs : starEach [e] X.env = [(false, eval e X.env)] := by rfl) :
    PI X (.Tuple elts kk tpos) (.Call (.Name "enumerate" p) [e] [] pos) (iEnumT X.K ta) := by
  constructor
  intro pins s σ H R I h
  refine Call_ (ld_blt I hg hm boot_enumerate (PyProof.Rows.callWith_type1 (thn (ha.run pos pins s σ H _ I h) ?_) hs rfl))
  rintro us s1 ⟨vs, H1, I1, r1, a, xs, rfl, hq, q⟩
  obtain ⟨u, rfl, r⟩ := vals1 r1
  cases r
  obtain ⟨its, rv, p', hz⟩ := I1.tuple hq
  refine call_enum1 (begins_tuple a its.toArray) p' fun g he hit hk => wpAny_pyIter_enum he ?_
  have I2 : Inv X pins σ H1 { s1 with heap := g } := I1.kept (t' := s1.toks) hk
  have al : a < s1.heap.objs.size := p'.lt
  have st : (∃ old, IsEnum g (s1.heap.objs.size + 1) s1.heap.objs.size ((0 : Nat) : Int) old) ∧ g.IsTupleIter s1.heap.objs.size a 0 ∧ (s1.heap.objs.size + 1) ≠ s1.heap.objs.size ∧ a ≠ s1.heap.objs.size ∧ (s1.heap.objs.size + 1) ≠ a :=
    ⟨⟨.none, he⟩, ⟨_, hit, rfl, rfl⟩, Nat.succ_ne_self _, Nat.ne_of_lt al, Nat.ne_of_gt (Nat.lt_succ_of_lt al)⟩
  refine ⟨s1.heap.objs.size + 1, [s1.heap.objs.size + 1, s1.heap.objs.size], _, _, H1, rfl, I2, turn_enumT a (s1.heap.objs.size + 1) s1.heap.objs.size, st, fun b hb => ?_, q⟩
  have z : b = s1.heap.objs.size + 1 ∨ b = s1.heap.objs.size := by simpa using hb
  have hle : s1.heap.objs.size ≤ b := by
    rcases z with rfl | rfl
    · exact Nat.le_add_right _ _
    · exact Nat.le_refl _
  exact I1.fpOk hle (I1.hok.fresh hle)
/-- a for over it: at each turn a new pair -/
theorem walk_enumT {K : PySem.W.Frag} {a : Addr} {xs : List V} : Walk (ItE K a) xs.length (fun H => SqT K H a xs) (YPair (fun i => some (.int (i : Nat))) (fun i => xs[i]?)) := by
  refine ⟨fun i _ hi q => ⟨xs, xs[i], q, by simp [hi]⟩, fun _ q => ⟨xs, q, rfl⟩, fun i H v H' _ q y => ?_⟩
  obtain ⟨T, x, h1, h2, h3, h4⟩ := y
  exact ⟨T, .int (i : Nat), x, h1, h2, h3, rfl, h4 xs q⟩
/-! ### text.replace(step[1], step[2]), step a swap -/
def tRepl (to : TE) (i : Nat) : TE := fun σ H Q => to σ H fun v H1 => ∃ x p a b, v = .str x ∧ σ[i]? = some (some (.ref p)) ∧ SwapAt H1 p a b ∧ x.length + (x.length + 1) * b.length ≤ 16777216 ∧ Q (.str (Txt.replace x a b)) H1
/-- a local name that holds an object -/
theorem name_ref {X : Cx} {pins : List (Addr × Obj)} {σ : L2.St} {H : Hp} {s : Shared} {i : Nat} {x : Str} {p : Addr} {pos : Pos} {Q E : Value → Shared → Prop} (hN : X.N[i]? = some x) (hv : X.env.scope.names.lookup x = some .local) (I : Inv X pins σ H s)
    (hσ : σ[i]? = some (some (.ref p))) (q : Q (.ref p) s) (hd : (x == ("__debug__" : Str)) = false := by decide) : wpAny (model X.prog X.w) X.A (eval (.Name x pos) X.env) Q E s := by
  obtain ⟨m, hn, hl⟩ := I.loc
  obtain ⟨u, r, l⟩ := hl i x _ hN hσ (.inl hv)
  obtain rfl : u = Value.ref p := r
  rcases l with ⟨hk, hm⟩ | ⟨hk, _⟩
  · exact wpAny_Name (wpAny_loadName_local I.ok.kind hk hn hm q) hd
  · have hv' : X.env.kindOf x = some .local := hv
    rw [hv'] at hk
    rcases hk with hk | hk <;> cases hk
/-- an item at a written place of a tuple whose object is known -/
theorem item_raw {X : Cx} {pins : List (Addr × Obj)} {σ : L2.St} {H : Hp} {s : Shared} {i : Nat} {x : Str} {p : Addr} {its : Array Value} {k : Int} {j : Nat} {w : Value} {p1 cp pos : Pos} {Q E : Value → Shared → Prop} (hN : X.N[i]? = some x)
    (hv : X.env.scope.names.lookup x = some .local) (I : Inv X pins σ H s) (hσ : σ[i]? = some (some (.ref p))) (ht : s.heap.IsTuple p its) (h0 : 0 ≤ k) (h1 : k < its.size) (hz : its.size ≤ 1000) (hw : its[k.toNat]? = some w) (fin : ∀ tk, Q w { s with toks := tk })
    (hs : PlainIx (.Constant (.int k) j cp)) (hd : (x == ("__debug__" : Str)) = false := by decide) :
    wpAny (model X.prog X.w) X.A (eval (.Subscript (.Name x p1) (.Constant (.int k) j cp) pos) X.env) Q E s := by
  refine Subscript_ (name_ref hN hv I hσ (wpAny_Constant_int ?_) hd)
  exact subscriptTail_builtinR (x := w) ht.typeIs slot_tuple_getitem.lookup
    (getItem_tuple (j := k.toNat) (Q := fun r s' => r = w ∧ Q r s') ht (by omega) (by omega) (by rw [seqIndex_of h0 h1]) hw ⟨rfl, fin _⟩) (hs _ _)
theorem pe_replT {X : Cx} {i : Nat} {kx : Str} {o : Expr} {to : TE} {j0 j1 : Nat} {p2 p3 c0 c1 q0 q1 apos pos : Pos} (nb : NoneBooked X.base) (ho : PE X o to) (hN : X.N[i]? = some kx) (hv : X.env.scope.names.lookup kx = some .local) (hd : (kx == ("__debug__" : Str)) = false := by decide)
    (hst : starEach [.Subscript (.Name kx p2) (.Constant (.int 1) j0 c0) q0, .Subscript (.Name kx p3) (.Constant (.int 2) j1 c1) q1] X.env =
      [(false, eval (.Subscript (.Name kx p2) (.Constant (.int 1) j0 c0) q0) X.env), (false, eval (.Subscript (.Name kx p3) (.Constant (.int 2) j1 c1) q1) X.env)] := by rfl)
    (hbase : attributeBase o "replace" X.env (eval o X.env) = eval o X.env := by rfl) (hline : (apos.endLine == pos.line) = true := by rfl) :
    PE X (.Call (.Attribute o "replace" apos) [.Subscript (.Name kx p2) (.Constant (.int 1) j0 c0) q0, .Subscript (.Name kx p3) (.Constant (.int 2) j1 c1) q1] [] pos) (tRepl to i) := by
  constructor
  intro pins s σ H Q I h
  refine PySem.Call_method2 hbase hst hline (thn (ho.run pins s σ H _ I h) ?_)
  rintro v s1 ⟨y, H1, I1, r1, x, p, a, b, rfl, hσ, ⟨n, t0, t, u, hp, ht, hu, htu⟩, hz, q⟩
  obtain ⟨tx, rfl⟩ := r1
  obtain ⟨hob, _⟩ := I1.hok p _ hp
  have tup : ∀ k, ({ s1 with toks := k } : Shared).heap.IsTuple p #[.str "swap" t0, .str a t, .str b u] := fun k => ⟨_, hob, rfl, n, rfl⟩
  refine ⟨"str", _, F.plainAttrs_str, F.slot_str_replace, F.type_str_replace, typeIs_str _ _ _, (fun _ e => nomatch e), Calls.callWith_builtin rfl (Calls.evalArgs_plain (Calls.spliced_cons ?_))⟩
  refine item_raw hN hv I1 hσ (tup s1.toks) (by decide) (by show (1:Int) < ((3:Nat):Int); decide) (by show 3 ≤ 1000; decide) rfl (fun k1 => ?_) (fun _ _ => rfl) hd
  refine Calls.spliced_cons (item_raw hN hv (I1.tok k1) hσ (tup k1) (by decide) (by show (2:Int) < ((3:Nat):Int); decide) (by show 3 ≤ 1000; decide) rfl (fun k2 => Calls.spliced_nil ?_) (fun _ _ => rfl) hd)
  exact replace_all (s := { s1 with toks := k2 }) (unbooked nb (I1.tok k2)) ht hu htu hz fun t' k => ⟨.str (Txt.replace x a b), H1, I1.tok k, ⟨t', rfl⟩, q⟩
end Pd

namespace Pd
open PySem PySem.Spec PyProof.Rows L2
/-! ### way, sign = .., signs[..]; the returns by way; the one of a swap by known tokens -/
section
variable {X : Cx} {pins : List (Addr × Obj)} {σ : L2.St} {H : Hp} {s : Shared}
theorem test_int {i : Nat} {x : Str} {n k : Int} {j : Nat} {p1 cp pos : Pos} {whole : Sem Value} {Q : Bool → Shared → Prop} {E : Value → Shared → Prop} (hN : X.N[i]? = some x) (hv : X.env.scope.names.lookup x = some .local) (I : Inv X pins σ H s)
    (hσ : σ[i]? = some (some (.int n))) (q : Q (n == k) { s with toks := s.toks + 1 }) (hd : (x == ("__debug__" : Str)) = false := by decide) :
    wpAny (model X.prog X.w) X.A (isTrue (.Compare (.Name x p1) [.Eq] [.Constant (.int k) j cp] pos) X.env whole) Q E s := by
  obtain ⟨m, hn, hl⟩ := I.loc
  obtain ⟨u, r, l⟩ := hl i x _ hN hσ (.inl hv)
  obtain ⟨t, rfl⟩ := r
  rcases l with ⟨hk, hm⟩ | ⟨hk, _⟩
  · exact wpAny_isTrue_Compare1 (wpAny_Name (wpAny_loadName_local I.ok.kind hk hn hm (wpAny_Constant_int (eq_int (wpAny_truthy_bool q)))) hd)
  · have hv' : X.env.kindOf x = some .local := hv
    rw [hv'] at hk
    rcases hk with hk | hk <;> cases hk
/-- an item of a list of texts, its token known -/
theorem pick_raw {ig : Nat} {gx : Str} {a : Addr} {cs : List Str} {its : List Value} {n m k : Nat} {idx : Expr} {ti : TE} {p1 pos : Pos} {R : Value → Shared → Prop} (hN : X.N[ig]? = some gx) (hv : X.env.scope.names.lookup gx = some .local) (I : Inv X pins σ H s)
    (hσ : σ[ig]? = some (some (.ref a))) (hi : PE X idx ti) (hs : PlainIx idx) (tk : TkL m k cs its) (hz : cs.length ≤ 1000)
    {C : V → Hp → Prop} (h : ti σ H C) (hC : ∀ y H2, C y H2 → ∃ (i : Int) (c : Str), y = .int i ∧ H2 a = some (.frz { cls := .type "list", data := .seq its.toArray n } (.lst (cs.map V.str))) ∧ 0 ≤ i ∧ cs[i.toNat]? = some c ∧
      ∀ s2 t, Inv X pins σ H2 s2 → its[i.toNat]? = some (.str c t) → m ≤ t → s.toks ≤ s2.toks → R (.str c t) s2) (hd : (gx == ("__debug__" : Str)) = false := by decide) :
    wpAny (model X.prog X.w) X.A (eval (.Subscript (.Name gx p1) idx pos) X.env) R X.xe s := by
  refine Subscript_ (name_ref hN hv I hσ (thn (tkE (Nat.le_refl s.toks) (hi.run pins s σ H _ I h)) ?_) hd)
  rintro u s2 ⟨ht, y, H2, I2, ry, hy⟩
  obtain ⟨i, c, rfl, hf, h0, hc, q⟩ := hC y H2 hy
  obtain ⟨t, rfl⟩ := ry
  obtain ⟨hob, _⟩ := I2.hok a _ hf
  obtain ⟨t2, e, l1, l2⟩ := tk.get hc
  have lst : s2.heap.IsList a its.toArray := ⟨_, hob, rfl, n, rfl⟩
  have hb : i.toNat < cs.length := (List.getElem?_eq_some_iff.mp hc).1
  exact item_listR lst h0 (by omega) (by simpa using e) (q s2 t2 I2 e l1 ht) (hs _ _)
end
def tSwap (iw is ig : Nat) (t1 ti ti2 : TE) (t0 tr : TS) : TS := fun D σ H => t1 σ H fun x H1 => ∃ (n : Int) (a : Addr) (cs : List Str), x = .int n ∧ σ[ig]? = some (some (.ref a)) ∧ cs.length ≤ 1000 ∧ TxtsAt H1 a cs ∧
  ti σ H1 fun y H2 => ∃ (i : Int) (c : Str), y = .int i ∧ H2 a = H1 a ∧ 0 ≤ i ∧ cs[i.toNat]? = some c ∧
  (n = 0 → t0 { D with nx := fun _ _ => False } ((σ.set iw (some (.int n))).set is (some (.str c))) H2) ∧
  (n = 1 → ti2 ((σ.set iw (some (.int n))).set is (some (.str c))) H2 fun y2 H3 => ∃ (j : Int) (d : Str), y2 = .int j ∧ H3 a = H2 a ∧ 0 ≤ j ∧ cs[j.toNat]? = some d ∧
    ∀ p H4, H3 p = none → SwapAt H4 p c d → (∀ b, b ≠ p → H4 b = H3 b) → D.rt (.ref p) H4) ∧
  (n ≠ 0 → n ≠ 1 → tr D ((σ.set iw (some (.int n))).set is (some (.str c))) H2)
set_option maxHeartbeats 1000000 in
theorem pss_swap {X : Cx} {iw is ig : Nat} {wx sx gx : Str} {e1 idx idx2 : Expr} {t1 ti ti2 : TE} {t0 tr : TS} {r0 rest : List Stmt} {k0 k1 k2 : Nat} {j0 j1 j2 : Nat}
    {a1 a2 a3 a4 a5 a6 a7 b1 b2 b3 b4 c1 c2 c3 c4 c5 c6 c7 c8 c9 c10 : Pos} (hc : X.calm = true) (hN : X.N.Nodup)
    (hw : X.N[iw]? = some wx) (hs : X.N[is]? = some sx) (hg : X.N[ig]? = some gx) (n1 : iw ≠ is) (n2 : ig ≠ iw) (n3 : ig ≠ is)
    (lw : X.env.scope.names.lookup wx = some .local) (ls : X.env.scope.names.lookup sx = some .local) (lg : X.env.scope.names.lookup gx = some .local)
    (h1 : PE X e1 t1) (hi : PE X idx ti) (hi2 : PE X idx2 ti2) (p1 : PlainIx idx) (p2 : PlainIx idx2) (h0 : PSs X r0 t0) (hr : PSs X rest tr)
    (dw : (wx == ("__debug__" : Str)) = false) (ds : (sx == ("__debug__" : Str)) = false) (dg : (gx == ("__debug__" : Str)) = false)
    (hst : starEach [e1, .Subscript (.Name gx a1) idx a2] X.env = [(false, eval e1 X.env), (false, eval (.Subscript (.Name gx a1) idx a2) X.env)])
    (hst2 : starEach [.Constant (.str "swap") j2 c5, .Name sx c6, .Subscript (.Name gx c7) idx2 c8] X.env = [(false, eval (.Constant (.str "swap") j2 c5) X.env), (false, eval (.Name sx c6) X.env), (false, eval (.Subscript (.Name gx c7) idx2 c8) X.env)])
    (hsw : swappedStores [.Tuple [.Name wx a3, .Name sx a4] k0 a5] (.Tuple [e1, .Subscript (.Name gx a1) idx a2] k1 a6) X.env = pure (some [wx, sx]))
    (hss : swapsWithSole [.Tuple [.Name wx a3, .Name sx a4] k0 a5] (.Tuple [e1, .Subscript (.Name gx a1) idx a2] k1 a6) a7.line X.env = pure false) :
    PSs X (.Assign [.Tuple [.Name wx a3, .Name sx a4] k0 a5] (.Tuple [e1, .Subscript (.Name gx a1) idx a2] k1 a6) a7
      :: .If (.Compare (.Name wx b1) [.Eq] [.Constant (.int 0) j0 b2] b3) r0 [] b4
      :: .If (.Compare (.Name wx c1) [.Eq] [.Constant (.int 1) j1 c2] c3) [.Return (some (.Tuple [.Constant (.str "swap") j2 c5, .Name sx c6, .Subscript (.Name gx c7) idx2 c8] k2 c9)) c4] [] c10
      :: rest) (tSwap iw is ig t1 ti ti2 t0 tr) := by
  constructor
  intro pins s σ H D I h
  refine wpAny_execs_cons ?_
  rw [exec_Assign_arm]
  refine wpAny_bind (wpAny_standAt ?_)
  rw [hss]
  refine wpAny_bind (wpAny_pure ?_)
  rw [if_neg (by decide)]
  refine wpAny_bind (Tuple_ ?_)
  rw [hst]
  show wpAny _ _ (spliced ((false, eval e1 X.env) :: [(false, eval (.Subscript (.Name gx a1) idx a2) X.env)])) _ _ s
  refine Calls.spliced_cons (thn (h1.run pins s σ H _ I h) ?_)
  rintro u1 s1 ⟨x, H1, I1, r1, n, a, cs, rfl, hσ, hz, ⟨its, nn, m, k, hf, tk, hm⟩, h2⟩
  refine Calls.spliced_cons (pick_raw (n := nn) hg lg I1 hσ hi p1 tk hz h2 ?_ dg)
  rintro y H2 ⟨i, c, rfl, ha, h0', hcs, w0, w1, w2⟩
  refine ⟨i, c, rfl, ha.trans hf, h0', hcs, fun s2 t I2 e2 hmt hst' => Calls.spliced_nil ?_⟩
  obtain ⟨tn, rfl⟩ := r1
  refine wpAny_newObj_type ?_ (by show 2 ≤ sizeLine; decide)
  have I3 : Inv X pins σ H2 { s2 with heap := s2.heap.push { cls := .type "tuple", data := .seq [Value.int n tn, .str c t].toArray } } := I2.kept (t' := s2.toks) fun b o e => Heap.get?_push_of_some _ e
  rw [hsw]
  refine wpAny_bind (wpAny_pure ?_)
  show wpAny (model X.prog X.w) X.A (do rule "assign.swapped-stores"; let items ← unpackItems (.ref s2.heap.objs.size) 2 none; assignInOrder [fun v => bindName X.env sx v, fun v => bindName X.env wx v] items.reverse; pure Flow.next) _ _ _
  refine wpAny_bind (wpAny_rule (wpAny_bind (unpackItems_tuple (items := #[Value.int n tn, .str c t]) (I.ok.hd hc) (IsTup.new s2.heap _) fun g hx' => ?_)))
  have I4 := I3.kept (h' := g) (t' := s2.toks) fun b o e => hx' b o (Nat.ne_of_lt (Heap.lt_size e)) e
  show wpAny _ _ (assignInOrder [fun v => bindName X.env sx v, fun v => bindName X.env wx v] [Value.str c t, .int n tn] >>= fun _ => pure Flow.next) _ _ _
  refine wpAny_bind (assignInOrder_cons (wpAny_bindName (store_raw (v := V.str c) I4 hN hs ls ⟨t, rfl⟩ fun s3 I5 K5 _ _ => ?_)))
  refine assignInOrder_cons (wpAny_bindName (store_raw (v := V.int n) I5 hN hw lw ⟨tn, rfl⟩ fun s4 I6 _ keep6 _ => assignInOrder_nil (wpAny_pure ?_)))
  have K6 : Holds X s4 sx (.str c t) := keep6 sx _ (fun e => n1 (nodup_ix hN hw (e ▸ hs))) K5
  rw [List.set_comm _ _ (Ne.symm n1)] at I6
  have hl : σ.length = X.N.length := I.len
  have lw1 : iw < σ.length := by rw [hl]; exact (List.getElem?_eq_some_iff.mp hw).1
  have sw : ((σ.set iw (some (V.int n))).set is (some (.str c)))[iw]? = some (some (.int n)) := by
    rw [List.getElem?_set_ne (Ne.symm n1), List.getElem?_set_self lw1]
  have sg : ((σ.set iw (some (V.int n))).set is (some (.str c)))[ig]? = some (some (.ref a)) := by
    rw [List.getElem?_set_ne (Ne.symm n3), List.getElem?_set_ne (Ne.symm n2)]; exact hσ
  generalize hS : (σ.set iw (some (V.int n))).set is (some (.str c)) = σ' at *
  -- if way == 0
  refine wpAny_execs_cons (wpAny_If (test_int hw lw I6 sw ?_ dw))
  by_cases e0 : n = 0
  · have e : (n == 0) = true := by simp [e0]
    rw [e]
    refine thn (h0.run pins _ σ' H2 _ (I6.tok _) (w0 e0)) fun f s5 q => ?_
    cases f with
    | next => obtain ⟨_, _, _, z⟩ := q; exact z.elim
    | ret v => exact q
    | brk => exact q
    | cont => exact q
  · have e : (n == 0) = false := by simp [e0]
    rw [e]
    refine wpAny_execs_nil ?_
    -- if way == 1
    refine wpAny_execs_cons (wpAny_If (test_int hw lw (I6.tok _) sw ?_ dw))
    by_cases e1 : n = 1
    · have e : (n == 1) = true := by simp [e1]
      rw [e]
      refine wpAny_execs_cons (wpAny_Return_some (Tuple_ ?_))
      rw [hst2]
      show wpAny _ _ (spliced ((false, eval (.Constant (.str "swap") j2 c5) X.env) :: (false, eval (.Name sx c6) X.env) :: [(false, eval (.Subscript (.Name gx c7) idx2 c8) X.env)])) _ _ _
      refine Calls.spliced_cons (Calls.Constant_str (Calls.spliced_cons ?_))
      refine ((K6.tok _).tok _).load (((I6.tok _).tok _).tok _) (Calls.spliced_cons ?_) ds
      refine pick_raw (n := nn) hg lg (((I6.tok _).tok _).tok _) sg hi2 p2 tk hz (w1 e1) ?_ dg
      rintro y2 H3 ⟨j, d, rfl, ha3, hj, hd, fin⟩
      refine ⟨j, d, rfl, ha3.trans (ha.trans hf), hj, hd, fun s5 t2 I7 e7 hmt2 _ => Calls.spliced_nil ?_⟩
      refine wpAny_newTuple ?_ (by show 3 ≤ sizeLine; decide)
      have new : H3 s5.heap.objs.size = none := I7.hok.fresh (Nat.le_refl _)
      refine ⟨.ref s5.heap.objs.size, σ', upd H3 s5.heap.objs.size (.frz { cls := .type "tuple", data := .seq #[.str "swap" s4.toks.succ.succ, .str c t, .str d t2] 0 } (.tup [.str "swap", .str c, .str d])), ?_, rfl, fin _ _ new ⟨0, _, t, t2, upd_same, Nat.ne_of_gt (Nat.lt_of_lt_of_le hm hmt), Nat.ne_of_gt (Nat.lt_of_lt_of_le hm hmt2), fun z => ?_⟩ fun b hb => upd_ne hb⟩
      · refine I7.laid (t' := s5.toks) (fun b o q => Heap.get?_push_of_some _ q) (Nat.le_refl _) ⟨Heap.get?_push_size _ rfl, by show 3 ≤ sizeLine; decide, [.str "swap" _, .str c t, .str d t2], .cons ⟨_, rfl⟩ (.cons ⟨_, rfl⟩ (.cons ⟨_, rfl⟩ .nil)), ⟨_, Heap.get?_push_size _ rfl, rfl, _, rfl⟩⟩
      · subst z
        exact tk.inj e2 e7
    · have e : (n == 1) = false := by simp [e1]
      rw [e]
      exact wpAny_execs_nil (hr.run pins _ σ' H2 D ((I6.tok _).tok _) (w2 e0 e1))
end Pd

namespace Pd
open PySem PySem.Spec PyProof.Rows L2
/-! ### a comprehension over a range whose items are new texts: the list stays untracked, its tokens are known -/
theorem TkL.snoc : ∀ {n m p t : Nat} {c : Str} {cs : List Str} {us : List Value}, TkL n m cs us → m ≤ t → t < p → TkL n p (cs ++ [c]) (us ++ [.str c t])
  | _, _, _, _, _, _, _, r, h1, h2 => r.app (.cons h1 h2 (.nil (Nat.le_refl _)))
theorem TkL.up : ∀ {n m m' : Nat} {cs : List Str} {us : List Value}, TkL n m cs us → m ≤ m' → TkL n m' cs us
  | _, _, _, _, _, .nil h, l => .nil (Nat.le_trans h l)
  | _, _, _, _, _, .cons h1 h2 r, l => .cons h1 h2 (r.up l)
set_option maxHeartbeats 2000000 in
theorem lcT {X : Cx} {pins : List (Addr × Obj)} {s : Shared} {σ : L2.St} {H : Hp} {elt iter : Expr} {kx : Str} {ik : Nat} {px pos : Pos} {scope : Scope} {own : List (Str × Nat)} {ta : TA} {te : TE} {R : Value → Shared → Prop}
    (hc : X.calm = true) (hN : X.N.Nodup) (I : Inv X pins σ H s) (hi : PI X (.Name kx px) iter (iRng1 ta)) (ok : BlkOk X.N X.env.scope scope own) (hik : ik ∈ own.map (·.2))
    (hg : ∀ (s : Shared) (H : Hp) (C : Addr) (cl : List (Str × Addr)) (fp : List Addr), PG (X.blk s H scope (compEnvC scope cl C X.env) fp) (.Name kx px) (gName ik))
    (he : ∀ (s : Shared) (H : Hp) (C : Addr) (cl : List (Str × Addr)) (fp : List Addr), PEF (X.blk s H scope (compEnvC scope cl C X.env) fp) elt te)
    (hs : ∀ x, foldedSetIterable iter X.env x = pure x) {R0 : It → Hp → Prop} (h : iRng1 ta σ H R0)
    (hR : ∀ J H1, R0 J H1 → ∃ (n : Nat) (P : Nat → Hp → Prop) (G : Str → Prop), J = Itr 0 n ∧ n ≤ 1000 ∧ P 0 H1 ∧
      (∀ i H2, i < n → P i H2 → te ((wipe σ (own.map (·.2))).set ik (some (.int (0 + i)))) H2 fun y H3 => ∃ c, y = .str c ∧ G c ∧ P (i + 1) H3) ∧
      ∀ D cs its nn s' H', Inv X pins σ H' s' → P n H' → cs.length = n → (∀ c ∈ cs, G c) → TkL (s.toks + 1) (s'.toks + 1) cs its → s.toks ≤ s'.toks →
        s'.heap.get? D = some { cls := .type "list", data := .seq its.toArray nn } → H' D = none → R (.ref D) s') :
    wpAny (model X.prog X.w) X.A (eval (.ListComp elt [⟨.Name kx px, iter, [], 0⟩] scope pos) X.env) R X.xe s := by
  rw [eval_ListComp]
  have hfree : ∀ y ∈ scope.names, y.2 = .free → ∃ c, X.env.cells.lookup y.1 = some c := fun y hy e => by
    rcases ok.free y hy e with k | k
    · exact I.ok.has _ (.inl k)
    · exact I.ok.has _ (.inr k)
  refine wpAny_comprehension_free (use := none) rfl hs (closure_ok hfree) ok.kind (fun y hy e => by rw [ok.uniq y hy, e]) (thn (tkE (Nat.le_refl s.toks) (hi.run pins s σ H R0 I h)) ?_)
  rintro xv s1 ⟨l1, hx⟩
  refine thn (tkE l1 hx) ?_
  rintro itv s2 ⟨l2, it, fp, tn, J, H2, rfl, I2, T, st2, f2, q⟩
  obtain ⟨n, P, G, rfl, hn, p0, turn, fin⟩ := hR _ _ q
  refine wpAny_newObj_type (newEnv_comp ?_) (by show 0 ≤ sizeLine; decide)
  generalize hD : s2.heap.objs.size = D
  have dn : H2 D = none := I2.hok.fresh (Nat.le_of_eq hD)
  generalize hs3 : ({ s2 with heap := s2.heap.push { cls := .type "list", data := .seq ([] : List Value).toArray } } : Shared) = s3
  have I3 : Inv X pins σ H2 s3 := by
    rw [← hs3]
    exact I2.kept (t' := s2.toks) fun b o e => Heap.get?_push_of_some _ e
  have t3 : s3.toks = s2.toks := by rw [← hs3]
  have h3 : s3.heap = s2.heap.push { cls := .type "list", data := .seq ([] : List Value).toArray } := by rw [← hs3]
  have gD : s3.heap.get? D = some { cls := .type "list", data := .seq ([] : List Value).toArray } := by
    rw [h3, ← hD]
    exact Heap.get?_push_size _ rfl
  have sz : ∀ b ∈ fp, b < s2.heap.objs.size := fun b hb => by
    obtain ⟨o, e, _⟩ := T.obj _ _ st2 b hb
    exact Heap.lt_size e
  have nDf : D ∉ fp := fun z => Nat.lt_irrefl _ (by have := sz D z; rw [hD] at this; exact this)
  have f3 : ∀ b ∈ D :: fp, FpOk X pins H2 b ∧ b < s3.heap.objs.size := fun b hb => by
    rcases List.mem_cons.mp hb with rfl | hb
    · exact ⟨I2.fpOk (Nat.le_of_eq hD) dn, Heap.lt_size gD⟩
    · exact ⟨f2 b hb, by rw [h3, Heap.size_push]; exact Nat.lt_succ_of_lt (sz b hb)⟩
  have st3 : tn 0 s3.heap := T.keep _ _ _ st2 fun b _ o e => by rw [h3]; exact Heap.get?_push_of_some _ e
  have I4 := block_start I3 ok hN f3
  have pg := hg s3 H2 s3.heap.objs.size (cellsFrom (s3.heap.objs.size + 1) scope.names (cloFrom X.env.cells scope.names [])) (D :: fp)
  have pe := he s3 H2 s3.heap.objs.size (cellsFrom (s3.heap.objs.size + 1) scope.names (cloFrom X.env.cells scope.names [])) (D :: fp)
  show codeAny _ _ (.compStart (.ListComp elt [⟨.Name kx px, iter, [], 0⟩] scope pos) 0 (.ref it) (.ref D) (compEnvC scope (cellsFrom (s3.heap.objs.size + 1) scope.names (cloFrom X.env.cells scope.names [])) s3.heap.objs.size X.env)) (compPost (model X.prog X.w) X.A X.xe none R (.ref D) s3.heap.objs.size) { s3 with heap := pushCells (s3.heap.push { cls := .type "dict", data := .dict #[] }) scope.names }
  generalize hce : compEnvC scope (cellsFrom (s3.heap.objs.size + 1) scope.names (cloFrom X.env.cells scope.names [])) s3.heap.objs.size X.env = ce at I4 pg pe ⊢
  have cL : ce.locals = s3.heap.objs.size := by subst hce; rfl
  have up3 : ∀ b o, s3.heap.get? b = some o → (pushCells (s3.heap.push { cls := .type "dict", data := .dict #[] }) scope.names).get? b = some o := fun b o e => pushCells_keeps _ _ _ _ (Heap.get?_push_of_some _ e)
  generalize hs4 : ({ s3 with heap := pushCells (s3.heap.push { cls := .type "dict", data := .dict #[] }) scope.names } : Shared) = s4 at I4 ⊢
  have t4 : s4.toks = s2.toks := by rw [← hs4]; exact t3
  have st4 : tn 0 s4.heap := T.keep _ _ _ st3 fun b _ o e => by rw [← hs4]; exact up3 b o e
  have gD4 : s4.heap.get? D = some { cls := .type "list", data := .seq ([] : List Value).toArray } := by rw [← hs4]; exact up3 _ _ gD
  have stat : ∀ {σ' : L2.St} {H' : Hp} {s' : Shared}, Inv (X.blk s3 H2 scope ce (D :: fp)) [] σ' H' s' → (∀ b ∈ D :: fp, H' b = none) → ∀ b ∈ D :: fp, FpOk (X.blk s3 H2 scope ce (D :: fp)) [] H' b := fun {σ' H' s'} I' hn b hb =>
    ⟨hn b hb, (I'.ok.exf b hb).1, I'.ok.exfs b hb, .inl hb, fun x c e => (I'.ok.exf b hb).2 x c e, fun p hp => absurd (show p ∈ ([] : List (Addr × Obj)) ++ [] from hp) (by simp)⟩
  have loop : codeAny (model X.prog X.w) X.A (.compLoop (.ListComp elt [⟨.Name kx px, iter, [], 0⟩] scope pos) 0 (.ref it) (.ref D) ce) (compPost (model X.prog X.w) X.A X.xe none R (.ref D) s3.heap.objs.size) s4 := by
    refine compLoop_any (fun m s' => ∃ i H' cs its nn, m = n - i ∧ i ≤ n ∧ Inv (X.blk s3 H2 scope ce (D :: fp)) [] (wipe σ (own.map (·.2))) H' s' ∧ tn i s'.heap ∧ (∀ b ∈ D :: fp, H' b = none) ∧ P i H' ∧ cs.length = i ∧ (∀ c ∈ cs, G c) ∧
      TkL (s.toks + 1) (s'.toks + 1) cs its ∧ s.toks ≤ s'.toks ∧ s'.heap.get? D = some { cls := .type "list", data := .seq its.toArray nn }) ?_ n
      ⟨0, H2, [], [], 0, (Nat.sub_zero _).symm, Nat.zero_le _, I4, st4, fun b hb => (f3 b hb).1.1, p0, rfl, (fun _ z => nomatch z), .nil (by omega), by omega, gD4⟩
    rintro m s5 ⟨i, H5, cs, its, nn, rfl, hi', I5, st5, n5, pi, hcs, hG, tk, ts, g5⟩
    have I5' : Inv (X.blk s3 H2 scope ce (D :: fp)) ([] ++ pinsAt [D] s5.heap) (wipe σ (own.map (·.2))) H5 s5 :=
      I5.pinned (fp := [D]) (fun b hb => stat I5 n5 b (by rw [List.mem_singleton.mp hb]; exact List.mem_cons_self)) fun b hb => by
        rw [List.mem_singleton.mp hb]
        exact ⟨_, g5, fun v z => nomatch z⟩
    have pinD : ∀ {pl : List (Addr × Obj)} {σ' : L2.St} {H' : Hp} {s' : Shared}, Inv (X.blk s3 H2 scope ce (D :: fp)) (([] ++ pinsAt [D] s5.heap) ++ pl) σ' H' s' → s'.heap.get? D = some { cls := .type "list", data := .seq its.toArray nn } ∧ H' D = none := fun J =>
      let z := J.pin (D, _) (List.mem_append_right _ (List.mem_append_left _ (List.mem_append_right _ (mem_pinsAt (List.mem_singleton.mpr rfl) g5))))
      ⟨z.1, z.2.1⟩
    have stat5 : ∀ {σ' : L2.St} {H' : Hp} {s' : Shared}, Inv (X.blk s3 H2 scope ce (D :: fp)) ([] ++ pinsAt [D] s5.heap) σ' H' s' → (∀ b ∈ fp, H' b = none) → ∀ b ∈ fp, FpOk (X.blk s3 H2 scope ce (D :: fp)) ([] ++ pinsAt [D] s5.heap) H' b := fun {σ' H' s'} I' hn' b hb => by
      have hb' : b ∈ D :: fp := List.mem_cons_of_mem _ hb
      refine ⟨hn' b hb, (I'.ok.exf b hb').1, I'.ok.exfs b hb', .inl hb', fun x c e => (I'.ok.exf b hb').2 x c e, fun p hp => ?_⟩
      have hp' : p ∈ pinsAt [D] s5.heap := by simpa using hp
      have e := (of_pinsAt hp').1
      rw [List.mem_singleton.mp e]
      exact fun z => nDf (z ▸ hb)
    by_cases hlt : i < n
    · have ti := T.item (X.blk s3 H2 scope ce (D :: fp)) rfl rfl rfl hc i _ s5 _ H5 (fun _ _ => False) I5' (stat5 I5' fun b hb => n5 b (List.mem_cons_of_mem _ hb)) st5 hlt
      refine thnF (tkE (Nat.le_refl s5.toks) ti) ?_
      rintro r s6 ⟨l6, u, rfl, h6⟩
      refine thnF (tkE l6 h6) ?_
      rintro _ s7 ⟨l7, x, H7, I7, r7, ⟨rfl, rfl⟩, st7, n7⟩
      have I7' := I7.pinned (stat5 I7 n7) (T.obj _ _ st7)
      refine thnF (tkE l7 (pg.run _ s7 _ H7 (V.int (0 + i)) u (fun σ' H' => σ' = (wipe σ (own.map (·.2))).set ik (some (.int (0 + i))) ∧ H' = H7) I7' r7 ⟨rfl, rfl⟩)) ?_
      rintro _ s8 ⟨l8, σ8, H8, I8, rfl, rfl⟩
      refine wpAny_tests_nil ?_
      simp only [if_true]
      refine thnF (pe.run _ s8 _ _ _ I8 (turn i _ hlt pi)) ?_
      rintro z s10 ⟨⟨yv, H10, I10, r10, c, rfl, gc, p10⟩, l10, xz, tz, rfl, lz1, lz2⟩
      have ec : xz = c := by
        obtain ⟨tq, eq⟩ := r10
        injection eq
      subst ec
      obtain ⟨gD10, dn10⟩ := pinD I10
      have its10 : its.toArray.size ≤ sizeLine := by
        have e := tk.vals.length
        rw [List.length_map] at e
        rw [List.size_toArray, sizeLine_eq]; omega
      refine append_at (hsz := its10) gD10 fun g sb hg' => ?_
      have keepfp : ∀ b ∈ fp, ∀ o, s7.heap.get? b = some o → s10.heap.get? b = some o ∧ H10 b = none := fun b hb o e =>
        let z := I10.pin (b, o) (List.mem_append_right _ (List.mem_append_right _ (mem_pinsAt hb e)))
        ⟨z.1, z.2.1⟩
      have hl : (wipe σ (own.map (·.2))).length = ((wipe σ (own.map (·.2))).set ik (some (V.int (0 + i)))).length := by simp
      have J10 : Inv (X.blk s3 H2 scope ce (D :: fp)) [] (wipe σ (own.map (·.2))) H10 s10 := by
        refine (((I10.unpinned).unpinned) : Inv (X.blk s3 H2 scope ce (D :: fp)) [] _ H10 s10).weak hl fun j v e => ?_
        obtain ⟨e1, e2⟩ := wipe_some e
        have nji : ik ≠ j := fun z => e2 (z ▸ hik)
        rw [List.getElem?_set_ne nji]
        exact e
      have fD := stat J10 (fun b hb => by
        rcases List.mem_cons.mp hb with rfl | hb
        · exact dn10
        · obtain ⟨o, e, _⟩ := T.obj _ _ st7 b hb
          exact (keepfp b hb o e).2) D List.mem_cons_self
      obtain ⟨f0, f1, f2', f3', f4, f5⟩ := fD
      have J11 : Inv (X.blk s3 H2 scope ce (D :: fp)) [] (wipe σ (own.map (·.2))) H10 { s10 with heap := g } := J10.turned (t' := s10.toks) (fun b o hb e => (sb.2 b hb).trans e) f0 f1 f3' f4 f5
      refine ⟨n - (i + 1), by omega, i + 1, H10, cs ++ [xz], its ++ [.str xz tz], nn + 1, rfl, hlt, J11, ?_, ?_, p10, ?_, ?_, ?_, ?_, ?_⟩
      · refine T.keep _ _ _ st7 fun b hb o e => ?_
        exact (sb.2 b (fun z => nDf (z ▸ hb))).trans (keepfp b hb o e).1
      · intro b hb
        rcases List.mem_cons.mp hb with rfl | hb
        · exact dn10
        · obtain ⟨o, e, _⟩ := T.obj _ _ st7 b hb
          exact (keepfp b hb o e).2
      · rw [List.length_append, hcs]; rfl
      · intro c' hc'
        rcases List.mem_append.mp hc' with h' | h'
        · exact hG c' h'
        · rw [List.mem_singleton.mp h']; exact gc
      · exact (tk.up (Nat.succ_le_succ l8)).snoc lz1 (Nat.lt_succ_of_lt lz2)
      · exact Nat.le_trans ts (Nat.le_trans l8 l10)
      · rw [hg']
        simp
    · have ein : i = n := by omega
      subst ein
      have td := T.done (X.blk s3 H2 scope ce (D :: fp)) rfl rfl rfl hc i _ s5 _ H5 (fun _ _ => False) I5' (stat5 I5' fun b hb => n5 b (List.mem_cons_of_mem _ hb)) st5 (Nat.le_refl _)
      refine thnF (tkE (Nat.le_refl s5.toks) td) ?_
      rintro r s6 ⟨l6, rfl, I6⟩
      obtain ⟨gD6, dn6⟩ := pinD (pl := []) (by simpa using I6)
      have I7 : Inv X pins σ H5 s6 := I3.call' (ch := D :: fp) I6.os I6.base I6.hok I6.bare fun b hb => ⟨(f3 b hb).1.2.2.2.1, (f3 b hb).1.2.1, (f3 b hb).1.2.2.2.2.1, (f3 b hb).1.2.2.2.2.2⟩
      have nC : H5 s3.heap.objs.size = none := by
        have z : H5 ce.locals = none := I6.free
        rw [cL] at z
        exact z
      obtain ⟨mm, hn', _⟩ := I6.loc
      have hn' : s6.heap.Ns ce.locals mm := hn'
      rw [cL] at hn'
      obtain ⟨f0, f1, f2', f3', f4, f5⟩ := I3.fpOk (H' := H5) (Nat.le_refl _) nC
      refine ⟨mm, hn', fun g sb => ?_⟩
      have neDC : D ≠ s3.heap.objs.size := Nat.ne_of_lt (Heap.lt_size gD)
      exact fin D cs its nn _ H5 (I7.turned (t' := s6.toks) (fun b o hb e => (sb.2 b hb).trans e) f0 f1 f3' f4 f5) pi hcs hG (tk.up (Nat.succ_le_succ l6)) (Nat.le_trans ts l6) ((sb.2 D neDC).trans gD6) dn6
  exact codeAny_compStart_list loop (T.self X.A 0 _ _ _ st4 loop)
end Pd

namespace Pd
open PySem PySem.Spec PyProof.Rows L2
/-! ### a def that gives a new text -/
def FnT (P : Program) (w : World) (K : PySem.W.Frag) (mg : Str → Option Value) (base : Heap) (CX : CXT) (k : Nat) (f : Addr) (sp : Sp) : Prop :=
  ∀ (A : Around) (outer : List Env) (s : Shared) (H : Hp) (us : List Value) (vs : List V) (Q : VK) (E : XK), Room k A → Env0 P w K mg base A outer s H → Vals vs us → sp vs H Q E →
    codeAny (model P w) A (.call (.ref f) ⟨us, []⟩) (fun r s' => CR CX outer P w H s Q E r s' ∧ ∀ u, r = .ok (.ret u) → s.toks ≤ s'.toks ∧ Frsh (s.toks + 1) s'.toks u) s
theorem FnT.fnR {P : Program} {w : World} {K : PySem.W.Frag} {mg : Str → Option Value} {base : Heap} {CX : CXT} {k : Nat} {f : Addr} {sp : Sp} (F : FnT P w K mg base CX k f sp) : FnR P w K mg base CX k f sp :=
  fun A outer s H us vs Q E hr e0 r h => codeAny_mono (F A outer s H us vs Q E hr e0 r h) fun _ _ z => z.1
theorem fnT_ret {P : Program} {w : World} {K : PySem.W.Frag} {mg : Str → Option Value} {base : Heap} {x qual : Str} {st : Stmt} {f : Addr} {fd : FuncData} {N ps : List Str} {k : Nat} {sp : Sp} {e : Expr} {rpos : Pos}
    (F : Fun K x qual st f fd) (S : FnScope N ps (defScope st)) (hst : defBody st = [.Return (some e) rpos])
    (hb : ∀ (kV doc pm : Value) (an : Option Addr) (cdv ct : Value) (us : List Value), us.length = ps.length → bindArgs (PySem.W.fnOf x qual (defArgs st) (defBody st) (defScope st) .none kV doc pm an cdv ct) ⟨us, []⟩ = pure (ps.zip us))
    (len : ∀ vs H Q E, sp vs H Q E → vs.length = ps.length)
    (hbody : ∀ (cdv : Value) (A : Around) (outer : List Env) (s : Shared) (H : Hp) (vs : List V) (Q : VK) (E : XK), Room k (A.deeper (envOfC qual (defScope st) s.heap.objs.size f cdv)) → sp vs H Q E →
      ∃ t, PEF (cxOf CX0 P w K mg base N qual (defScope st) f cdv A outer s H E) e t ∧ t (start N vs) H Q) : FnT P w K mg base CX0 (k + 1) f sp := by
  obtain ⟨oc, od, kV, doc, pm, an, cdv, ct, osl, rfl, lk, hcd⟩ := F.ex
  intro A outer s H us vs Q E hr e0 r hsp
  have hl : us.length = ps.length := r.length.symm.trans (len _ _ _ _ hsp)
  have KX : K.In s.heap := e0.mod.kin.keeps fun b o e => (e0.bs b o e).1
  have lim : s.heap.NoLimit := e0.mod.nolimit.keeps fun b o e => (e0.bs b o e).1
  have hkind : ∀ y ∈ ps.zip us, (defScope st).names.lookup y.1 = some .local ∨ ((defScope st).names.lookup y.1 = some .cell ∧ ((cellsFrom (s.heap.objs.size + 1) (defScope st).names []).lookup y.1).isSome = true) := fun y hy => by
    rcases S.par y.1 (List.of_mem_zip hy).1 with q | q
    · exact .inl q
    · exact .inr ⟨q, PySem.W.cellsFrom_some _ _ _ (.inl q)⟩
  refine codeAny_call_function hr.depth (KX _ _ lk) rfl S.co S.gen rfl (PySem.W.codeRec_of KX hcd) (BindsTo.of_eq (hb kV doc pm an cdv ct us hl) _ _ _ _ ?_)
  refine wpAny_mono (tkE (Nat.le_refl s.toks) (wpAny_newFunctionEnv_cells S.kind hkind fun env he s1 x => (⟨he, x⟩ : env = _ ∧ InCallC s _ _ _ _ s1))) ?_ fun _ _ z => z
  rintro env s1 ⟨ht, rfl, x⟩
  refine ⟨lim.keeps x.toInCall.keep, codeAny_func ?_⟩
  obtain ⟨t, he, hq⟩ := hbody cdv A outer s H vs Q E (hr.deeper _) hsp
  have I : Inv (cxOf CX0 P w K mg base N qual (defScope st) f cdv A outer s H E) [] (start N vs) H s1 := inv_start S hr.hd e0 (len _ _ _ _ hsp) r x
  rw [hst]
  refine wpAny_execs_cons (wpAny_Return_some (wpAny_mono (he.run [] s1 _ H Q I hq) ?_ fun e s' z => ?_))
  · rintro u s' ⟨⟨v, H', J, rv, q⟩, l1, xz, tz, rfl, l2, l3⟩
    refine ⟨⟨v, H', J.os, J.bare, J.base, J.hok, rv, q⟩, fun u' eu => ?_⟩
    injection eu with eu
    injection eu with eu
    subst eu
    exact ⟨Nat.le_trans ht l1, xz, tz, rfl, Nat.le_trans (Nat.succ_le_succ ht) l2, l3⟩
  · exact wpAny_mono z (fun _ s'' h => ⟨h, fun _ e => nomatch e⟩) fun _ s'' h => ⟨h, fun _ e => nomatch e⟩
theorem pef_call {X : Cx} {k : Nat} {f : Addr} {sp : Sp} {E : XK} {x : Str} {e : Expr} {es : List Expr} {t : TA} {p pos : Pos} {CX : CXT} (F : FnT X.prog X.w X.K X.mg X.base CX k f sp) (hr : Room k X.A) (hg : Gl X x) (hm : X.mg x = some (.ref f)) (hk : PySem.W.keepIn X.K (.ref f) = true)
    (hx : Passes CX X E) (ha : PA X (e :: es) t) (hdb : (x == ("__debug__" : Str)) = false := by decide) (he : starEach (e :: es) X.env = (false, eval e X.env) :: starEach es X.env := by rfl) (hpl : (backTo pos (starEach es X.env)).any (·.1) = false := by rfl) :
    PEF X (.Call (.Name x p) (e :: es) [] pos) (fun σ H Q => t σ H fun vs H1 => sp vs H1 Q E) := by
  constructor
  intro pins s σ H Q I h
  refine wpAny_Call_Name_kw (ld_glob I hg hm ?_ hdb)
  refine PySem.W.callWith_K (h₀ := X.base) I.ok.mod.kin hk (thn (tkE (Nat.le_refl s.toks) (ha.run pos pins s σ H _ I h)) ?_) he hpl
  rintro us s1 ⟨l1, vs, H1, I1, r, q⟩
  refine ⟨I1.kIn, wpAny_call (codeAny_mono (F X.A X.stack s1 H1 us vs Q E hr I1.env0 r q) fun r s' hq => ?_)⟩
  obtain ⟨hq, h2⟩ := hq
  cases r with
  | error e => exact hx pins σ H1 s1 e s' I1 hq
  | ok fl =>
    cases fl with
    | next => exact False.elim hq
    | brk => exact False.elim hq
    | cont => exact False.elim hq
    | ret u =>
      obtain ⟨l2, xz, tz, rfl, l3, l4⟩ := h2 u rfl
      exact ⟨I1.after hq, Nat.le_trans l1 l2, xz, tz, rfl, Nat.le_trans (Nat.succ_le_succ l1) l3, l4⟩
/-- x(e, ..) by a promise of its positional arguments -/
theorem pe_callR {X : Cx} {k : Nat} {f : Addr} {sp : Sp} {E : XK} {x : Str} {e : Expr} {es : List Expr} {t : TA} {p pos : Pos} {CX : CXT} (F : FnR X.prog X.w X.K X.mg X.base CX k f sp) (hr : Room k X.A) (hg : Gl X x) (hm : X.mg x = some (.ref f)) (hk : PySem.W.keepIn X.K (.ref f) = true)
    (hx : Passes CX X E) (ha : PA X (e :: es) t) (hdb : (x == ("__debug__" : Str)) = false := by decide) (he : starEach (e :: es) X.env = (false, eval e X.env) :: starEach es X.env := by rfl) (hpl : (backTo pos (starEach es X.env)).any (·.1) = false := by rfl) :
    PE X (.Call (.Name x p) (e :: es) [] pos) (fun σ H Q => t σ H fun vs H1 => sp vs H1 Q E) := by
  constructor
  intro pins s σ H Q I h
  refine wpAny_Call_Name_kw (ld_glob I hg hm ?_ hdb)
  refine PySem.W.callWith_K (h₀ := X.base) I.ok.mod.kin hk (thn (ha.run pos pins s σ H _ I h) ?_) he hpl
  rintro us s1 ⟨vs, H1, I1, r, q⟩
  exact ⟨I1.kIn, wpAny_call (run_fnR F hr hx I1 r q)⟩
end Pd

namespace Pd
open PySem PySem.Spec PyProof.Rows L2
/-! ### letter = ..; found = [letter, letter.upper(), .., ' ']; return found + [.. for k in range(..)] -/
def four (x1 x2 : Str) : List Str := [x1, Txt.upper x1, x2, " "]
def tSigns (z1 z2 : Str) (il ifd ik : Nat) (own : List Nat) (tb1 tb2 : TE) (ta : TA) (te : TE) : TS := fun D σ H => tItemC z1 tb1 σ H fun v1 H1 => ∃ x1 : Str, v1 = .str x1 ∧ x1.length ≤ 1000 ∧
  tItemC z2 tb2 (σ.set il (some (.str x1))) H1 fun v2 H2 => ∃ x2 : Str, v2 = .str x2 ∧ ∀ a H3, H2 a = none → (∃ o, H3 a = some (.frz o (.lst ((four x1 x2).map .str)))) → (∀ b, b ≠ a → H3 b = H2 b) →
    iRng1 ta ((σ.set il (some (.str x1))).set ifd (some (.ref a))) H3 fun J H4 => ∃ (n : Nat) (P : Nat → Hp → Prop) (G : Str → Prop), J = Itr 0 n ∧ n ≤ 1000 ∧ P 0 H4 ∧
      (∀ i H5, i < n → P i H5 → te ((wipe ((σ.set il (some (.str x1))).set ifd (some (.ref a))) own).set ik (some (.int (0 + i)))) H5 fun y H6 => ∃ c, y = .str c ∧ G c ∧ P (i + 1) H6) ∧
      ∀ cs H', P n H' → cs.length = n → (∀ c ∈ cs, G c) → H' a = H3 a ∧ ∀ p H4, H' p = none → TxtsAt H4 p (four x1 x2 ++ cs) → (∀ b, b ≠ p → H4 b = H' b) → D.rt (.ref p) H4
set_option maxHeartbeats 2000000 in
theorem pss_signs {X : Cx} {z1 z2 : Str} {il ifd ik : Nat} {lx fx kx : Str} {b1 b2 elt iter : Expr} {tb1 tb2 te : TE} {ta : TA} {scope : Scope} {own : List (Str × Nat)} {j1 j2 j3 : Nat}
    {a1 a2 c1 c2 c3 d1 d2 d3 d4 p1 p2 p3 q1 q2 q3 q4 q5 px pos : Pos} (hc : X.calm = true) (hN : X.N.Nodup) (hl : X.N[il]? = some lx) (hf : X.N[ifd]? = some fx) (n1 : il ≠ ifd)
    (ll : X.env.scope.names.lookup lx = some .local) (lf : X.env.scope.names.lookup fx = some .local) (h1 : PE X b1 tb1) (h2 : PE X b2 tb2) (s1 : PlainIxT b1) (s2 : PlainIxT b2)
    (hi : PI X (.Name kx px) iter (iRng1 ta)) (ok : BlkOk X.N X.env.scope scope own) (hik : ik ∈ own.map (·.2))
    (hg : ∀ (s : Shared) (H : Hp) (C : Addr) (cl : List (Str × Addr)) (fp : List Addr), PG (X.blk s H scope (compEnvC scope cl C X.env) fp) (.Name kx px) (gName ik))
    (he : ∀ (s : Shared) (H : Hp) (C : Addr) (cl : List (Str × Addr)) (fp : List Addr), PEF (X.blk s H scope (compEnvC scope cl C X.env) fp) elt te)
    (hs : ∀ x, foldedSetIterable iter X.env x = pure x) (dl : (lx == ("__debug__" : Str)) = false) (df : (fx == ("__debug__" : Str)) = false)
    (hs1 : swapsWith (.Subscript (.Constant (.str z1) j1 c1) b1 d1) (some (.Name lx a1)) p1.line X.env = pure false)
    (hs2 : swapsWith (.List [.Name lx q1, .Call (.Attribute (.Name lx q2) "upper" q3) [] [] q4, .Subscript (.Constant (.str z2) j2 c2) b2 d2, .Constant (.str " ") j3 c3] d3) (some (.Name fx a2)) p2.line X.env = pure false)
    (hst : starEach [.Name lx q1, .Call (.Attribute (.Name lx q2) "upper" q3) [] [] q4, .Subscript (.Constant (.str z2) j2 c2) b2 d2, .Constant (.str " ") j3 c3] X.env =
      [(false, eval (.Name lx q1) X.env), (false, eval (.Call (.Attribute (.Name lx q2) "upper" q3) [] [] q4) X.env), (false, eval (.Subscript (.Constant (.str z2) j2 c2) b2 d2) X.env), (false, eval (.Constant (.str " ") j3 c3) X.env)])
    (hbase : attributeBase (.Name lx q2) "upper" X.env (eval (.Name lx q2) X.env) = eval (.Name lx q2) X.env) (hline : (q3.endLine == q4.line) = true) :
    PSs X [.Assign [.Name lx a1] (.Subscript (.Constant (.str z1) j1 c1) b1 d1) p1,
      .Assign [.Name fx a2] (.List [.Name lx q1, .Call (.Attribute (.Name lx q2) "upper" q3) [] [] q4, .Subscript (.Constant (.str z2) j2 c2) b2 d2, .Constant (.str " ") j3 c3] d3) p2,
      .Return (some (.BinOp (.Name fx q5) .Add (.ListComp elt [⟨.Name kx px, iter, [], 0⟩] scope pos) d4)) p3] (tSigns z1 z2 il ifd ik (own.map (·.2)) tb1 tb2 ta te) := by
  constructor
  intro pins s σ H D I h
  refine wpAny_execs_cons (wpAny_Assign_Name (thn ((pef_item h1 s1).run pins s σ H _ I h) ?_) hs1)
  rintro u1 t1 ⟨⟨v1, H1, I1, r1, x1, rfl, hx1, h'⟩, l1, y1, k1, rfl, k1a, k1b⟩
  have e1 : y1 = x1 := by
    obtain ⟨tq, eq⟩ := r1
    injection eq
  subst e1
  refine store_raw (v := V.str y1) I1 hN hl ll r1 fun t2 I2 K2 _ l2 => ?_
  refine wpAny_execs_cons (wpAny_Assign_Name (wpAny_List_spliced ?_) hs2)
  rw [hst]
  show wpAny _ _ (spliced ((false, eval (.Name lx q1) X.env) :: (false, eval (.Call (.Attribute (.Name lx q2) "upper" q3) [] [] q4) X.env) :: (false, eval (.Subscript (.Constant (.str z2) j2 c2) b2 d2) X.env) :: [(false, eval (.Constant (.str " ") j3 c3) X.env)])) _ _ _
  refine Calls.spliced_cons (K2.load I2 (Calls.spliced_cons ?_) dl)
  refine PySem.Call_method0 hbase hline (K2.load I2 ?_ dl)
  refine ⟨"str", _, F.plainAttrs_str, F.slot_str_upper, F.type_str_upper, typeIs_str _ _ _, (fun _ e => nomatch e), Calls.callWith_builtin rfl (PySem.evalArgs_none ?_)⟩
  have fit : Builtin.Str.tooLong (Txt.upper y1).length = false := PyProof.Rows.short24 (by have := PyProof.Rows.len_upper y1; omega)
  refine PySem.SC.upper fit (Calls.spliced_cons ?_)
  refine thn ((pef_item h2 s2).run pins _ _ H1 _ (I2.tok _) h') ?_
  rintro u3 t3 ⟨⟨v2, H2, I3, r3, x2, rfl, hx2⟩, l3, y3, k3, rfl, k3a, k3b⟩
  have e3 : y3 = x2 := by
    obtain ⟨tq, eq⟩ := r3
    injection eq
  subst e3
  refine Calls.spliced_cons (Calls.Constant_str (Calls.spliced_nil ⟨by show 4 ≤ sizeLine; decide, ?_⟩))
  have lay : ∀ {o : Obj} {u : HO}, ObjOk X.prog X.w (upd H2 t3.heap.objs.size u) (t3.heap.push o) t3.heap.objs.size u → Inv X pins (σ.set il (some (V.str y1))) (upd H2 t3.heap.objs.size u) { t3 with heap := t3.heap.push o, toks := t3.toks + 1 } :=
    fun w => I3.laid (t' := t3.toks + 1) (fun b o q => Heap.get?_push_of_some _ q) (Nat.le_refl _) w
  have tk4 : TkL (s.toks + 1) (t3.toks + 1) (four y1 y3) [.str y1 k1, .str (Txt.upper y1) t2.toks, .str y3 k3, .str " " t3.toks] := by
    refine .cons (k := t2.toks) k1a (Nat.lt_of_lt_of_le k1b l2) (.cons (k := t2.toks + 1) (Nat.le_refl _) (Nat.lt_succ_self _) (.cons (k := t3.toks) ?_ k3b (.cons (k := t3.toks + 1) (Nat.le_refl _) (Nat.lt_succ_self _) (.nil (Nat.le_refl _)))))
    exact Nat.le_of_succ_le k3a
  have I4 := lay (o := { cls := .type "list", data := .seq [Value.str y1 k1, .str (Txt.upper y1) t2.toks, .str y3 k3, .str " " t3.toks].toArray }) (u := .frz { cls := .type "list", data := .seq [Value.str y1 k1, .str (Txt.upper y1) t2.toks, .str y3 k3, .str " " t3.toks].toArray } (.lst ((four y1 y3).map .str)))
    ⟨Heap.get?_push_size _ rfl, by show 4 ≤ sizeLine; decide, _, 0, tk4.vals, Heap.get?_push_size _ rfl⟩
  have new2 : H2 t3.heap.objs.size = none := I3.hok.fresh (Nat.le_refl _)
  have h3 := hx2 t3.heap.objs.size _ new2 ⟨_, upd_same⟩ fun b hb => upd_ne (o := .frz { cls := .type "list", data := .seq [Value.str y1 k1, .str (Txt.upper y1) t2.toks, .str y3 k3, .str " " t3.toks].toArray } (.lst ((four y1 y3).map .str))) hb
  generalize hA : t3.heap.objs.size = a at *
  generalize hO : ({ cls := .type "list", data := .seq [Value.str y1 k1, .str (Txt.upper y1) t2.toks, .str y3 k3, .str " " t3.toks].toArray } : Obj) = o4 at *
  refine store_raw (v := V.ref a) I4 hN hf lf rfl fun t5 I5 _ _ l5 => ?_
  refine wpAny_execs_cons (wpAny_Return_some (wpAny_BinOp ?_))
  have hlen : σ.length = X.N.length := I.len
  have lf1 : ifd < (σ.set il (some (V.str y1))).length := by rw [List.length_set, hlen]; exact (List.getElem?_eq_some_iff.mp hf).1
  refine name_ref hf lf I5 (List.getElem?_set_self lf1) ?_ df
  refine lcT hc hN I5 hi ok hik hg he hs h3 ?_
  rintro J H4 ⟨n, P, G, rfl, hn, p0, turn, fin⟩
  refine ⟨n, P, G, rfl, hn, p0, turn, ?_⟩
  intro D' cs its nn s' H' I' pn hcs hG tk ls gD nD
  obtain ⟨ha, fin2⟩ := fin cs H' pn hcs hG
  rw [upd_same] at ha
  obtain ⟨ga, _⟩ := I'.hok a _ ha
  subst hO
  refine PySem.P.add_list ga gD ?_ ?_
  · have ea : ([Value.str y1 k1, .str (Txt.upper y1) t2.toks, .str y3 k3, .str " " t3.toks].toArray ++ its.toArray) = ([Value.str y1 k1, .str (Txt.upper y1) t2.toks, .str y3 k3, .str " " t3.toks] ++ its).toArray := by simp
    rw [ea]
    have new' : H' s'.heap.objs.size = none := I'.hok.fresh (Nat.le_refl _)
    have tkA : TkL (s.toks + 1) (s'.toks + 1) (four y1 y3 ++ cs) ([Value.str y1 k1, .str (Txt.upper y1) t2.toks, .str y3 k3, .str " " t3.toks] ++ its) := (tk4.up (Nat.le_trans l5 (Nat.le_succ _))).app tk
    have len : (four y1 y3 ++ cs).length ≤ sizeLine := by
      rw [List.length_append, hcs, sizeLine_eq]; show 4 + n ≤ _; omega
    refine ⟨.ref s'.heap.objs.size, _, upd H' s'.heap.objs.size (.frz { cls := .type "list", data := .seq ([Value.str y1 k1, .str (Txt.upper y1) t2.toks, .str y3 k3, .str " " t3.toks] ++ its).toArray } (.lst ((four y1 y3 ++ cs).map .str))),
      I'.laid (t' := s'.toks) (fun b o q => Heap.get?_push_of_some _ q) (Nat.le_refl _) ⟨Heap.get?_push_size _ rfl, by rw [List.length_map]; exact len, _, 0, tkA.vals, Heap.get?_push_size _ rfl⟩, rfl, ?_⟩
    exact fin2 _ _ new' ⟨_, 0, _, _, upd_same, tkA, by omega⟩ fun b hb => upd_ne hb
  · have e := tk.vals.length
    rw [List.length_map, hcs] at e
    rw [List.size_toArray, List.size_toArray, ← e]
    show 4 + n ≤ sizeLine
    rw [sizeLine_eq]; omega
end Pd

namespace Pd
open PySem PySem.Spec PyProof.Rows L2
/-! ### an instance called with keywords alone -/
theorem callO_kw {M : Model} {A : Around} {E : Value → Shared → Prop} {s : Shared} {a : Addr} {pos : Pos} {Q : Value → Shared → Prop} {args : List (Bool × Sem Value)} {kws : List (Option Str × Sem Value)} (hplain : (args.any (·.1) || kws.any (·.1.isNone)) = false)
    (h : wpAny M A (evalArgs (.ref a) true args kws) (fun z s1 => (∃ C ox od, PySem.W.InstAt s1.heap a ox C od ∧ ox.data = .plain) ∧ wpAny M A (call (.ref a) ([] ++ z.pos) z.kw) Q E s1) E s) : wpAny M A (callWith pos (.ref a) [] args kws) Q E s := by
  unfold callWith
  refine wpAny_bind (wpAny_holding (wpAny_mono h ?_ fun _ _ y => y))
  rintro z s1 ⟨⟨C, ox, od, J, hd⟩, h1⟩
  refine wpAny_bind (wpAny_standAt ?_)
  simp only [hplain]
  refine wpAny_bind ((PySem.W.kco_keeper (M := M) J hd).here ?_)
  refine wpAny_bind (wpAny_mono (wpAny_operateT h1) ?_ fun _ _ y => y)
  exact fun r s2 hr => wpAny_bind (wpAny_holding (wpAny_point (wpAny_pure hr)))
def tCallOK (X : Cx) (C : Addr) (m : Nat) (sp : Sp) (gV : List V → List V → List V) (E : XK) (tf : TE) (tk : TA) : TE := fun σ H Q => tf σ H fun y H1 => ∃ a, y = V.ref a ∧ tk σ H1 fun zs H2 => zs.length = m ∧ StX.InsC X H2 a C ∧ sp (gV [V.ref a] zs) H2 Q E
theorem pe_callOK {X : Cx} {CX : CXT} {k : Nat} {C g : Addr} {fd : FuncData} {ps ks : List Str} {sp : Sp} {E : XK} {fe : Expr} {tf : TE} {pos : Pos} {kws : List Keyword} {tk : TA} {gv : List Value → List Value → List Value} {gV : List V → List V → List V}
    (hf : PE X fe tf) (c : StX.CallO X.K C g) (F : FnOk X.prog X.w X.K X.mg X.base CX k g fd ps sp) (hr : Room k X.A) (hb : KBn X.K fd ps 1 ks gv gV) (hx : Passes CX X E) (hkw : PK X kws tk)
    (ht : eval (.Call fe [] kws pos) X.env = (do callWith pos (← eval fe X.env) [] (backTo pos (starEach [] X.env)) (backToKw pos (keywordEach kws X.env))) := by rfl)
    (hall : (backToKw pos (keywordEach kws X.env)).all (·.1.isSome) = true := by rfl) (hks : (backToKw pos (keywordEach kws X.env)).filterMap (·.1) = ks := by rfl)
    (hpl : ((backTo pos (starEach [] X.env)).any (·.1) || (backToKw pos (keywordEach kws X.env)).any (·.1.isNone)) = false := by rfl) : PE X (.Call fe [] kws pos) (tCallOK X C ks.length sp gV E tf tk) := by
  constructor
  intro pins s σ H Q I h
  rw [ht]
  refine wpAny_bind (thn (hf.run pins s σ H _ I h) ?_)
  rintro u s1 ⟨y, H1, I1, ry, a, rfl, q⟩
  obtain rfl : u = Value.ref a := ry
  refine callO_kw hpl (evalArgs_kw2_nil hall (thn (hkw.run pos pins s1 σ H1 _ I1 q) ?_))
  rintro ws s2 ⟨zs, H2, I2, rz, l2, hi, q2⟩
  obtain ⟨ox, od, J, hd⟩ := StX.insC_at I2 hi
  refine ⟨⟨C, ox, od, J, hd⟩, ?_⟩
  rw [hks]
  have r2 := hb.rel (vs := [V.ref a]) (us := [Value.ref a]) (.cons rfl .nil) rz
  refine wpAny_call (PySem.W.kco_code (a := ⟨[] ++ [], ks.zip ws⟩) I2.kIn J hd c.at_ c.fn c.fi (codeAny_mono (F.run X.A X.stack s2 H2 ⟨[Value.ref a], ks.zip ws⟩ _ _ Q E hr I2.env0 (hb.to s2 _ ws I2.kIn rfl (rz.length.symm.trans l2)) r2 q2) ?_))
  intro r s' hq
  cases r with
  | error e => exact hx pins σ H2 s2 e s' I2 hq
  | ok fl =>
    cases fl with
    | ret u => exact I2.after hq
    | next => exact False.elim hq
    | brk => exact False.elim hq
    | cont => exact False.elim hq
end Pd

namespace Pd
open SX
/-! ### the document's steps, on lists of signs -/
/-- the signs that texts may have -/
def CH : List Nat := [97, 98, 99, 100, 101, 102, 103, 104, 105, 106, 107, 108, 109, 110, 111, 112, 113, 114, 115, 116, 117, 118, 119, 120, 121, 122,
  65, 66, 67, 68, 69, 70, 71, 72, 73, 74, 75, 76, 77, 78, 79, 80, 81, 82, 83, 84, 85, 86, 87, 88, 89, 90, 48, 49, 50, 51, 52, 53, 54, 55, 56, 57, 32, 45, 46, 95, 47, 39]
inductive Stp where
  | low | swap (a b : Nat) | drop (cs : List Nat) | lead (a : Nat) | once (a : Nat) | cut (n : Nat)
def lowC (c : Nat) : Nat := if 65 ≤ c ∧ c ≤ 90 then c + 32 else c
def swapC (a b c : Nat) : Nat := if c = a then b else c
def keepAt (a : Nat) (l : List Nat) (i : Nat) : Bool := decide (l.getD i 0 ≠ a) || decide (i = 0) || decide (l.getD (i - 1) 0 ≠ a)
def onceN (a : Nat) (l : List Nat) : Nat → List Nat
  | 0 => []
  | i + 1 => onceN a l i ++ (if keepAt a l i = true then [l.getD i 0] else [])
def onceL (a : Nat) (l : List Nat) : List Nat := onceN a l l.length
def mk : Stp → List Nat → List Nat
  | .low, l => l.map lowC
  | .swap a b, l => l.map (swapC a b)
  | .drop cs, l => l.filter (fun c => decide (c ∉ cs))
  | .lead a, l => l.dropWhile (fun c => decide (c = a))
  | .once a, l => onceL a l
  | .cut n, l => l.take n
/-- a step that the document allows -/
def Stp.ok : Stp → Prop
  | .low => True
  | .swap a b => a ∈ CH ∧ b ∈ CH
  | .drop cs => 1 ≤ cs.length ∧ cs.length ≤ 10 ∧ cs.Nodup ∧ ∀ c ∈ cs, c ∈ CH
  | .lead a => a ∈ CH
  | .once a => a ∈ CH
  | .cut n => 1 ≤ n ∧ n ≤ 9
/-- a text that the document allows -/
def Good (l : List Nat) : Prop := (∀ c ∈ l, c ∈ CH) ∧ l.length ≤ 60
theorem onceN_mem {a : Nat} {l : List Nat} : ∀ {i : Nat}, i ≤ l.length → ∀ c ∈ onceN a l i, c ∈ l
  | 0, _, c, h => nomatch h
  | i + 1, hi, c, h => by
    rw [onceN] at h
    rcases List.mem_append.mp h with h | h
    · exact onceN_mem (Nat.le_of_succ_le hi) c h
    · split at h
      · rw [List.mem_singleton.mp h]
        have e : l.getD i 0 = l[i] := by
          have e2 : l[i]? = some l[i] := List.getElem?_eq_getElem (by omega)
          simp only [List.getD, e2, Option.getD_some]
        rw [e]; exact List.getElem_mem _
      · exact nomatch h
theorem onceN_len {a : Nat} {l : List Nat} : ∀ i : Nat, (onceN a l i).length ≤ i
  | 0 => Nat.le_refl _
  | i + 1 => by
    rw [onceN, List.length_append]
    have := onceN_len (a := a) (l := l) i
    split <;> simp <;> omega
/-- the last one that is kept -/
theorem onceN_last {a : Nat} {l : List Nat} : ∀ i : Nat, (onceN a l i).getLast? = some a ↔ (0 < i ∧ l.getD (i - 1) 0 = a)
  | 0 => by simp [onceN]
  | i + 1 => by
    have ih := onceN_last (a := a) (l := l) i
    rw [onceN]
    by_cases k : keepAt a l i = true
    · rw [if_pos k, List.getLast?_concat]
      simp
    · rw [if_neg k, List.append_nil, ih]
      have k' : keepAt a l i = false := by simpa using k
      simp only [keepAt, Bool.or_eq_false_iff, decide_eq_false_iff_not, Decidable.not_not] at k'
      obtain ⟨⟨h1, h2⟩, h3⟩ := k'
      simp only [Nat.add_sub_cancel]
      exact ⟨fun _ => ⟨by omega, h1⟩, fun _ => ⟨by omega, h3⟩⟩
/-- no two of a side by side -/
def NoAdj (a : Nat) (m : List Nat) : Prop := ∀ i, 0 < i → i < m.length → ¬ (m.getD i 0 = a ∧ m.getD (i - 1) 0 = a)
theorem noAdj_snoc {a c : Nat} {m : List Nat} (h : NoAdj a m) (hc : ¬ (c = a ∧ m.getLast? = some a)) : NoAdj a (m ++ [c]) := by
  intro i h0 hi
  rw [List.length_append] at hi
  simp at hi
  by_cases e : i = m.length
  · subst e
    rintro ⟨h1, h2⟩
    have e1 : (m ++ [c]).getD m.length 0 = c := by simp [List.getD]
    have e2 : (m ++ [c]).getD (m.length - 1) 0 = m.getD (m.length - 1) 0 := by
      simp only [List.getD, List.getElem?_append_left (show m.length - 1 < m.length by omega)]
    rw [e1] at h1
    rw [e2] at h2
    refine hc ⟨h1, ?_⟩
    rw [List.getLast?_eq_getElem?]
    have : m[m.length - 1]? = some m[m.length - 1] := List.getElem?_eq_getElem (by omega)
    rw [this]
    simp only [List.getD, this, Option.getD_some] at h2
    rw [h2]
  · have hi' : i < m.length := by omega
    have e1 : (m ++ [c]).getD i 0 = m.getD i 0 := by simp only [List.getD, List.getElem?_append_left hi']
    have e2 : (m ++ [c]).getD (i - 1) 0 = m.getD (i - 1) 0 := by simp only [List.getD, List.getElem?_append_left (show i - 1 < m.length by omega)]
    rw [e1, e2]
    exact h i h0 hi'
theorem onceN_noAdj {a : Nat} {l : List Nat} : ∀ i : Nat, NoAdj a (onceN a l i)
  | 0 => fun i _ hi => by simp [onceN] at hi
  | i + 1 => by
    rw [onceN]
    by_cases k : keepAt a l i = true
    · rw [if_pos k]
      refine noAdj_snoc (onceN_noAdj i) ?_
      rintro ⟨h1, h2⟩
      rw [onceN_last] at h2
      simp only [keepAt, Bool.or_eq_true, decide_eq_true_eq] at k
      rcases k with (k | k) | k
      · exact k h1
      · omega
      · exact k h2.2
    · rw [if_neg k, List.append_nil]
      exact onceN_noAdj i
theorem onceN_id {a : Nat} {m : List Nat} (h : NoAdj a m) : ∀ i : Nat, i ≤ m.length → onceN a m i = m.take i
  | 0, _ => by simp [onceN]
  | i + 1, hi => by
    have k : keepAt a m i = true := by
      simp only [keepAt, Bool.or_eq_true, decide_eq_true_eq]
      by_cases h0 : i = 0
      · exact .inl (.inr h0)
      · by_cases h1 : m.getD i 0 = a
        · exact .inr fun h2 => h i (by omega) hi ⟨h1, h2⟩
        · exact .inl (.inl h1)
    rw [onceN, onceN_id h i (by omega), if_pos k, List.take_succ]
    have : m[i]? = some m[i] := List.getElem?_eq_getElem hi
    simp only [List.getD, this, Option.getD_some, Option.toList_some]
theorem onceL_idem (a : Nat) (l : List Nat) : onceL a (onceL a l) = onceL a l := by
  show onceN a (onceL a l) (onceL a l).length = _
  have h := onceN_id (m := onceL a l) (onceN_noAdj _) _ (Nat.le_refl _)
  rw [h, List.take_length]
theorem lowC_lowC (c : Nat) : lowC (lowC c) = lowC c := by
  unfold lowC
  split
  · split <;> omega
  · rfl
theorem dropWhile_idem (p : Nat → Bool) : ∀ l : List Nat, (l.dropWhile p).dropWhile p = l.dropWhile p
  | [] => rfl
  | c :: r => by
    by_cases h : p c = true
    · rw [List.dropWhile_cons_of_pos h]; exact dropWhile_idem p r
    · rw [List.dropWhile_cons_of_neg h, List.dropWhile_cons_of_neg h]
/-- a step changes nothing of what it made -/
theorem mk_idem (st : Stp) (l : List Nat) : mk st (mk st l) = mk st l := by
  cases st with
  | low => show (l.map lowC).map lowC = l.map lowC; rw [List.map_map]; exact List.map_congr_left fun c _ => lowC_lowC c
  | swap a b =>
    show (l.map (swapC a b)).map (swapC a b) = l.map (swapC a b)
    rw [List.map_map]
    refine List.map_congr_left fun c _ => ?_
    show swapC a b (swapC a b c) = swapC a b c
    unfold swapC
    by_cases h : c = a
    · simp [h]
    · simp [h]
  | drop cs => show (l.filter _).filter _ = l.filter _; rw [List.filter_filter]; exact List.filter_congr fun c _ => Bool.and_self _
  | lead a => exact dropWhile_idem _ l
  | once a => exact onceL_idem a l
  | cut n => show (l.take n).take n = l.take n; rw [List.take_take, Nat.min_self]
theorem mk_len (st : Stp) (l : List Nat) : (mk st l).length ≤ l.length := by
  cases st with
  | low => exact Nat.le_of_eq (List.length_map _)
  | swap a b => exact Nat.le_of_eq (List.length_map _)
  | drop cs => exact List.length_filter_le _ _
  | lead a => exact (List.dropWhile_suffix _).length_le
  | once a => exact onceN_len _
  | cut n => exact List.length_take_le' _ _
theorem low_CH : ∀ c ∈ CH, lowC c ∈ CH := by decide
theorem mk_CH {st : Stp} {l : List Nat} (hs : st.ok) (h : ∀ c ∈ l, c ∈ CH) : ∀ c ∈ mk st l, c ∈ CH := by
  intro c hc
  cases st with
  | low => obtain ⟨d, hd, rfl⟩ := List.mem_map.mp hc; exact low_CH d (h d hd)
  | swap a b =>
    obtain ⟨d, hd, rfl⟩ := List.mem_map.mp hc
    unfold swapC
    split
    · exact hs.2
    · exact h d hd
  | drop cs => exact h c (List.mem_filter.mp hc).1
  | lead a => exact h c ((List.dropWhile_suffix _).subset hc)
  | once a => exact h c (onceN_mem (Nat.le_refl _) c hc)
  | cut n => exact h c (List.mem_of_mem_take hc)
theorem mk_good {st : Stp} {l : List Nat} (hs : st.ok) (h : Good l) : Good (mk st l) := ⟨mk_CH hs h.1, Nat.le_trans (mk_len st l) h.2⟩
theorem CH_lt : ∀ c ∈ CH, c < 128 := by decide
theorem CH_len : CH.length = 68 := rfl
theorem CH_nodup : CH.Nodup := by decide
end Pd

namespace Pd
open PySem PySem.Spec PyProof.Rows L2
/-! ### the operators of an own class: +, in, not in -/
section
variable {X : Cx} {CX : CXT} {C g : Addr} {n : Nat} {sp : Sp} {E : XK}
def rAddOwn (C : Addr) (sp : Sp) (E : XK) : R2 := fun x y H Q => ∃ a dx fs b dy gs, x = .ref a ∧ y = .ref b ∧ H a = some (.ins C dx fs) ∧ H b = some (.ins C dy gs) ∧ sp [.ref a, .ref b] H Q E
theorem op_addOwn (hc : PySem.W.selfFirst X.K C = true) (hs : PySem.W.findIn X.K (.ref C) "__add__" = some (some (.ref g))) (hf : PySem.W.isFn X.K (.ref g) = true) (F : FnR X.prog X.w X.K X.mg X.base CX n g sp) (hr : Room n X.A) (hx : Passes CX X E) :
    OpR X (binaryOp .Add) (rAddOwn C sp E) := by
  intro pins s σ H x y v u Q I rx ry h
  obtain ⟨a, dx, fs, b, dy, gs, rfl, rfl, ha, hb, q⟩ := h
  cases (show v = Value.ref a from rx)
  cases (show u = Value.ref b from ry)
  obtain ⟨mA, J, _⟩ := ins_get I.hok ha
  obtain ⟨mB, J', _⟩ := ins_get I.hok hb
  obtain ⟨od, J, _⟩ := J.look
  obtain ⟨od', J', _⟩ := J'.look
  obtain ⟨m, hF⟩ := I.fr
  refine PySem.W.binop_K (op := .Add) hF I.ok.mod.kin J J'.type hc hs hf ?_
  refine wpAny_mono (wpAny_call (run_fnR (us := [.ref a, .ref b]) (vs := [.ref a, .ref b]) F hr hx I (.cons rfl (.cons rfl .nil)) q)) (fun w s' z => ?_) fun _ _ x => x
  obtain ⟨z', H', I', rz, qz⟩ := z
  exact SlX.cmpback rz ⟨z', H', I', rz, qz⟩
def rInOwn (C : Addr) (k : Bool → Bool) (sp : Sp) (E : XK) : R2 := fun x y H Q => ∃ a dx fs, y = .ref a ∧ H a = some (.ins C dx fs) ∧ sp [.ref a, x] H (fun z H' => ∃ b, z = .bl b ∧ Q (.bl (k b)) H') E
theorem op_inOwn (hs : PySem.W.findIn X.K (.ref C) "__contains__" = some (some (.ref g))) (hf : PySem.W.isFn X.K (.ref g) = true) (F : FnR X.prog X.w X.K X.mg X.base CX n g sp) (hr : Room n X.A) (hx : Passes CX X E) :
    OpR X (compareOp .In) (rInOwn C (fun b => b) sp E) := by
  intro pins s σ H x y v u Q I rx ry h
  obtain ⟨a, dx, fs, rfl, ha, q⟩ := h
  cases (show u = Value.ref a from ry)
  obtain ⟨mA, J, _⟩ := ins_get I.hok ha
  obtain ⟨od, J, _⟩ := J.look
  obtain ⟨m, hF⟩ := I.fr
  refine PySem.W.in_K hF I.ok.mod.kin J hs hf ?_
  refine wpAny_mono (wpAny_call (run_fnR (us := [.ref a, v]) (vs := [.ref a, x]) F hr hx I (.cons rfl (.cons rx .nil)) q)) (fun w s' z => ?_) fun _ _ x => x
  obtain ⟨z', H', I', rz, b, rfl, qz⟩ := z
  cases (show w = Value.bool b from rz)
  exact wpAny_truthy_bool ⟨.bl b, H', I', rfl, qz⟩
theorem op_notInOwn (hs : PySem.W.findIn X.K (.ref C) "__contains__" = some (some (.ref g))) (hf : PySem.W.isFn X.K (.ref g) = true) (F : FnR X.prog X.w X.K X.mg X.base CX n g sp) (hr : Room n X.A) (hx : Passes CX X E) :
    OpR X (compareOp .NotIn) (rInOwn C (fun b => !b) sp E) := by
  intro pins s σ H x y v u Q I rx ry h
  obtain ⟨a, dx, fs, rfl, ha, q⟩ := h
  cases (show u = Value.ref a from ry)
  obtain ⟨mA, J, _⟩ := ins_get I.hok ha
  obtain ⟨od, J, _⟩ := J.look
  obtain ⟨m, hF⟩ := I.fr
  refine PySem.W.notIn_K hF I.ok.mod.kin J hs hf ?_
  refine wpAny_mono (wpAny_call (run_fnR (us := [.ref a, v]) (vs := [.ref a, x]) F hr hx I (.cons rfl (.cons rx .nil)) q)) (fun w s' z => ?_) fun _ _ x => x
  obtain ⟨z', H', I', rz, b, rfl, qz⟩ := z
  cases (show w = Value.bool b from rz)
  exact wpAny_truthy_bool ⟨.bl (!b), H', I', rfl, qz⟩
end
end Pd

namespace Pd
open PySem PySem.Spec PyProof.Rows L2
/-! ### an instance called where it may raise, in a try -/
def InsP (H : Hp) (a C : Addr) : Prop := (∃ dx vs, SlX.Slt H a C dx vs) ∨ ∃ dx fs, H a = some (.ins C dx fs)
def tCallOS (C : Addr) (sp : Sp) (E : L2.St → XK) (tf : TE) (t : TA) : TE := fun σ H Q => tf σ H fun y H1 => ∃ a, y = V.ref a ∧ t σ H1 fun vs H2 => InsP H2 a C ∧ sp (V.ref a :: vs) H2 Q (E σ)
theorem pe_callOS {X : Cx} {CX : CXT} {k : Nat} {C g : Addr} {sp : Sp} {E : L2.St → XK} {fe e : Expr} {es : List Expr} {tf : TE} {t : TA} {pos : Pos} (hf : PE X fe tf) (c : StX.CallO X.K C g) (F : FnR X.prog X.w X.K X.mg X.base CX k g sp) (hr : Room k X.A) (hx : ∀ σ, PassesAt CX X σ (E σ)) (ha : PA X (e :: es) t)
    (ht : eval (.Call fe (e :: es) [] pos) X.env = (do callWith pos (← eval fe X.env) [] (backTo pos (starEach (e :: es) X.env)) (backToKw pos (keywordEach [] X.env))) := by rfl)
    (he : starEach (e :: es) X.env = (false, eval e X.env) :: starEach es X.env := by rfl) (hpl : (backTo pos (starEach es X.env)).any (·.1) = false := by rfl) : PE X (.Call fe (e :: es) [] pos) (tCallOS C sp E tf t) := by
  constructor
  intro pins s σ H Q I h
  refine Call_ (thn (hf.run pins s σ H _ I h) fun u s1 ⟨y, H1, I1, ry, a, ey, q⟩ => ?_) ht
  subst ey
  obtain rfl : u = Value.ref a := ry
  refine StX.callO_with (thn (ha.run pos pins s1 σ H1 _ I1 q) fun us s2 ⟨vs, H2, I2, r, hi, q2⟩ => ?_) he hpl
  obtain ⟨ox, od, J, hd⟩ := StX.insC_at I2 (show StX.InsC X H2 a C from hi)
  refine ⟨⟨C, ox, od, J, hd⟩, wpAny_call (PySem.W.kco_code I2.kIn J hd c.at_ c.fn c.fi (codeAny_mono (F X.A X.stack s2 H2 (.ref a :: us) (.ref a :: vs) Q (E σ) hr I2.env0 (.cons rfl r) q2) ?_))⟩
  intro r s' hq
  cases r with
  | error e => exact hx σ pins H2 s2 e s' I2 hq
  | ok fl =>
    cases fl with
    | ret u => exact I2.after hq
    | next => exact False.elim hq
    | brk => exact False.elim hq
    | cont => exact False.elim hq
end Pd

namespace Pd
open PySem PySem.Spec PyProof.Rows L2
/-- list(text): some list -/
theorem call_listStr {X : Cx} (hc : X.calm = true) : CallR X (.type "list") (fun xs H Q => ∃ x : Str, xs = [.str x] ∧ x.cps.size ≤ 1000 ∧ ∀ p ys, H p = none → Q (.ref p) (upd H p (.lst ys))) := by
  intro pins s σ H xs us Q I r h
  obtain ⟨x, rfl, hz, q⟩ := h
  obtain ⟨u, rfl, t, rfl⟩ := vals1 r
  refine PySem.call_list_str (hn := by rw [sizeLine_eq]; omega) (I.ok.hd hc) x t fun h' tk acc c hk hS hacc => ?_
  have key : ∃ ys : List V, Vals ys acc.toList ∧ ys.length = x.cps.size := by
    have hsz : acc.size = x.cps.size := hacc.1
    have all : ∀ u ∈ acc.toList, ∃ v : V, RelV v u := fun u hu => by
      obtain ⟨i, hi, e⟩ := List.getElem_of_mem hu
      have hi' : i < acc.size := by simpa using hi
      obtain ⟨c', t', _, e2⟩ := hacc.2 i u (by rw [← e]; simp [hi'])
      exact ⟨.str ⟨#[c']⟩, t', e2⟩
    have mk : ∀ l : List Value, (∀ u ∈ l, ∃ v : V, RelV v u) → ∃ ys : List V, Vals ys l := by
      intro l
      induction l with
      | nil => exact fun _ => ⟨[], .nil⟩
      | cons u l ih =>
        intro h
        obtain ⟨v, hv⟩ := h u (List.mem_cons_self ..)
        obtain ⟨ys, hys⟩ := ih fun w hw => h w (List.mem_cons_of_mem _ hw)
        exact ⟨v :: ys, .cons hv hys⟩
    obtain ⟨ys, hys⟩ := mk _ all
    exact ⟨ys, hys, by rw [hys.length, Array.length_toList, hsz]⟩
  obtain ⟨ys, hys, hl⟩ := key
  have new : H s.heap.objs.size = none := I.hok.fresh (Nat.le_refl _)
  refine ⟨.ref s.heap.objs.size, upd H s.heap.objs.size (.lst ys), I.laid (t' := tk) (fun b o e => hk b o e) (Nat.le_refl _) ?_, rfl, q _ _ new⟩
  exact ⟨by rw [hl, sizeLine_eq]; omega, acc.toList, c, hys, by simpa using hS⟩
end Pd

set_option maxHeartbeats 2000000
namespace Pd
open PySem PySem.Spec PyProof.Rows L2
/-! ### rules that hold where at least n tokens are out -/
section
variable {α : Type} {M : Model} {A : Around} {E : Value → Shared → Prop} {s : Shared}
theorem thk {t : Sem α} {Q Q' : α → Shared → Prop} {n : Nat} (l : n ≤ s.toks) (h : wpAny M A t Q E s) (k : ∀ a s', n ≤ s'.toks → Q a s' → Q' a s') : wpAny M A t Q' E s :=
  thn (tkE l h) fun a s' z => k a s' z.1 z.2
end
structure PEn (n : Nat) (X : Cx) (e : Expr) (t : TE) : Prop where
  run : ∀ (pins : List (Addr × Obj)) (s : Shared) (σ : L2.St) (H : Hp) (Q : VK), n ≤ s.toks → Inv X pins σ H s → t σ H Q → wpAny (model X.prog X.w) X.A (eval e X.env) (EP X pins σ Q) X.xe s
structure PTn (n : Nat) (X : Cx) (e : Expr) (t : TT) : Prop where
  run : ∀ (pins : List (Addr × Obj)) (s : Shared) (σ : L2.St) (H : Hp) (Q : Bool → Hp → Prop), n ≤ s.toks → Inv X pins σ H s → t σ H Q → wpAny (model X.prog X.w) X.A (isTrue e X.env (eval e X.env)) (TP X pins σ Q) X.xe s
structure PAn (n : Nat) (X : Cx) (es : List Expr) (t : TA) : Prop where
  run : ∀ (pos : Pos) (pins : List (Addr × Obj)) (s : Shared) (σ : L2.St) (H : Hp) (Q : List V → Hp → Prop), n ≤ s.toks → Inv X pins σ H s → t σ H Q → wpAny (model X.prog X.w) X.A (spliced (backTo pos (starEach es X.env))) (AP X pins σ Q) X.xe s
structure PSn (n : Nat) (X : Cx) (st : Stmt) (t : TS) : Prop where
  run : ∀ (pins : List (Addr × Obj)) (s : Shared) (σ : L2.St) (H : Hp) (D : Ends), n ≤ s.toks → Inv X pins σ H s → t D σ H → wpAny (model X.prog X.w) X.A (exec st X.env) (SP X pins D) X.xe s
structure PSsn (n : Nat) (X : Cx) (sts : List Stmt) (t : TS) : Prop where
  run : ∀ (pins : List (Addr × Obj)) (s : Shared) (σ : L2.St) (H : Hp) (D : Ends), n ≤ s.toks → Inv X pins σ H s → t D σ H → wpAny (model X.prog X.w) X.A (execs sts X.env) (SP X pins D) X.xe s
/-- a def that may be called where n tokens are out -/
def FnN (n : Nat) (P : Program) (w : World) (K : PySem.W.Frag) (mg : Str → Option Value) (base : Heap) (k : Nat) (f : Addr) (sp : Sp) : Prop :=
  ∀ (A : Around) (outer : List Env) (s : Shared) (H : Hp) (us : List Value) (vs : List V) (Q : VK) (E : XK), n ≤ s.toks → Room k A → Env0 P w K mg base A outer s H → Vals vs us → sp vs H Q E →
    codeAny (model P w) A (.call (.ref f) ⟨us, []⟩) (CR CX0 outer P w H s Q E) s
section
variable {X : Cx} {n : Nat} {e a b c : Expr} {es : List Expr} {te ta tb : TE} {tl : TA} {t u v : TS} {tt tu : TT} {st : Stmt} {rest : List Stmt} {pos p : Pos}
theorem pen (h : PE X e te) : PEn n X e te := ⟨fun pins s σ H Q _ I q => h.run pins s σ H Q I q⟩
theorem ptn (h : PT X e tt) : PTn n X e tt := ⟨fun pins s σ H Q _ I q => h.run pins s σ H Q I q⟩
theorem pan (h : PA X es tl) : PAn n X es tl := ⟨fun pos pins s σ H Q _ I q => h.run pos pins s σ H Q I q⟩
theorem psn (h : PS X st t) : PSn n X st t := ⟨fun pins s σ H D _ I q => h.run pins s σ H D I q⟩
theorem pssn (h : PSs X rest t) : PSsn n X rest t := ⟨fun pins s σ H D _ I q => h.run pins s σ H D I q⟩
theorem PSsn.toT (h : PSsn 1 X rest t) : PSsT X rest t := fun pins s σ H D l I q => h.run pins s σ H D l I q
theorem PEn.mono {m : Nat} (h : PEn n X e te) (l : n ≤ m) : PEn m X e te := ⟨fun pins s σ H Q k I q => h.run pins s σ H Q (Nat.le_trans l k) I q⟩
/-! #### statements -/
theorem pssn_cons (h1 : PSn n X st t) (h2 : PSsn n X rest u) : PSsn n X (st :: rest) (tSeq t u) := by
  constructor
  intro pins s σ H D l I h
  refine wpAny_execs_cons (thk l (h1.run pins s σ H { D with nx := u D } l I h) fun f s1 l1 q => ?_)
  cases f with
  | next =>
    obtain ⟨σ', H', J, q'⟩ := q
    exact h2.run pins s1 σ' H' D l1 J q'
  | ret w => exact q
  | brk => exact q
  | cont => exact q
theorem pssn_one (h1 : PSn n X st t) : PSsn n X [st] t := by
  constructor
  intro pins s σ H D l I h
  refine wpAny_execs_cons (thn (h1.run pins s σ H D l I h) fun f s1 q => ?_)
  cases f with
  | next => exact wpAny_execs_nil q
  | ret w => exact q
  | brk => exact q
  | cont => exact q
theorem psn_if {s1 s2 : List Stmt} (hc : PTn n X c tt) (ha : PSsn n X s1 t) (hb : PSsn n X s2 u) : PSn n X (.If c s1 s2 pos) (tIfS tt t u) := by
  constructor
  intro pins s σ H D l I h
  refine wpAny_If (thk l (hc.run pins s σ H _ l I h) fun d s' l' ⟨H1, I1, q1⟩ => ?_)
  cases d with
  | true => exact ha.run pins s' σ H1 D l' I1 q1
  | false => exact hb.run pins s' σ H1 D l' I1 q1
theorem psn_ret (he : PEn n X e te) : PSn n X (.Return (some e) pos) (tRet te) := by
  constructor
  intro pins s σ H D l I h
  exact wpAny_Return_some (thn (he.run pins s σ H _ l I h) fun w s1 ⟨x, H1, I1, r1, q1⟩ => ⟨x, σ, H1, I1, r1, q1⟩)
theorem psn_expr (he : PEn n X e te) (hs : swapsWith e none pos.line X.env = pure false := by rfl) : PSn n X (.Expr e pos) (tDrop te) := by
  constructor
  intro pins s σ H D l I h
  exact wpAny_Expr_any (thn (he.run pins s σ H _ l I h) fun w s1 ⟨x, H1, I1, r1, q1⟩ => ⟨σ, H1, I1, q1⟩) I.quiet hs
theorem psn_set {i : Nat} {x : Str} {pos' : Pos} (hN : X.N.Nodup) (hi : X.N[i]? = some x) (hx : Loc X.env.scope x) (he : PEn n X e te) (hs : swapsWith e (some (.Name x pos')) pos.line X.env = pure false := by rfl)
    (hf : X.fn x = true ∨ X.env.scope.names.lookup x = some .local := by first | exact .inl rfl | exact .inr rfl | assumption) : PSn n X (.Assign [.Name x pos'] e pos) (tAsg te (gName i)) := by
  constructor
  intro pins s σ H D l I h
  refine wpAny_Assign_Name (thn (he.run pins s σ H _ l I h) fun w s1 ⟨y, H1, I1, r1, q1⟩ => ?_) hs
  exact store_ok I1 hN hi hx r1 (fun s2 I2 => ⟨_, H1, I2, q1⟩) hf
/-! #### arguments, calls -/
theorem pan_cons (ha : PEn n X e te) (hr : PAn n X es tl) (hs : starEach (e :: es) X.env = (false, eval e X.env) :: starEach es X.env := by rfl) : PAn n X (e :: es) (tCons te tl) := by
  constructor
  intro pos pins s σ H Q l I h
  rw [hs]
  show wpAny _ _ (spliced ((false, eval e X.env) :: backTo pos (starEach es X.env))) _ _ s
  refine Calls.spliced_cons (thk l (ha.run pins s σ H _ l I h) fun w s1 l1 ⟨x, H1, I1, r1, q1⟩ => ?_)
  exact thn (hr.run pos pins s1 σ H1 _ l1 I1 q1) fun us s2 ⟨xs, H2, I2, r2, q2⟩ => ⟨x :: xs, H2, I2, .cons r1 r2, q2⟩
theorem pan_nil : PAn n X [] tNil := pan pa_nil
section
variable {k : Nat} {f : Addr} {sp : Sp} {E : XK} {x : Str}
theorem run_fnN {pins : List (Addr × Obj)} {σ : L2.St} {H : Hp} {s : Shared} {us : List Value} {vs : List V} {Q : VK} (F : FnN n X.prog X.w X.K X.mg X.base k f sp) (hr : Room k X.A) (l : n ≤ s.toks) (I : Inv X pins σ H s) (r : Vals vs us) (h : sp vs H Q E) :
    codeAny (model X.prog X.w) X.A (.call (.ref f) ⟨us, []⟩) (fun r s' => match r with | .ok (.ret v) => EP X pins σ Q v s' | .ok _ => False | .error e => X.xe e s') s := by
  refine codeAny_mono (F X.A X.stack s H us vs Q E l hr I.env0 r h) fun r s' hq => ?_
  cases r with
  | error e => exact pass0 pins σ H s e s' I hq
  | ok fl =>
    cases fl with
    | ret w => exact I.after hq
    | next => exact False.elim hq
    | brk => exact False.elim hq
    | cont => exact False.elim hq
theorem pen_callN (F : FnN n X.prog X.w X.K X.mg X.base k f sp) (hr : Room k X.A) (hg : Gl X x) (hm : X.mg x = some (.ref f)) (hk : PySem.W.keepIn X.K (.ref f) = true)
    (ha : PAn n X (e :: es) tl) (hdb : (x == ("__debug__" : Str)) = false := by decide) (he : starEach (e :: es) X.env = (false, eval e X.env) :: starEach es X.env := by rfl) (hpl : (backTo pos (starEach es X.env)).any (·.1) = false := by rfl) :
    PEn n X (.Call (.Name x p) (e :: es) [] pos) (tCall sp [] E tl) := by
  constructor
  intro pins s σ H Q l I h
  refine wpAny_Call_Name_kw (ld_glob I hg hm ?_ hdb)
  refine PySem.W.callWith_K (h₀ := X.base) I.ok.mod.kin hk (thk l (ha.run pos pins s σ H _ l I h) ?_) he hpl
  rintro us s1 l1 ⟨vs, H1, I1, r, q⟩
  rw [List.append_nil] at q
  exact ⟨I1.kIn, wpAny_call (run_fnN F hr l1 I1 r q)⟩
/-- a plain def, its arguments with n tokens out -/
theorem pen_call {CX : CXT} (F : FnR X.prog X.w X.K X.mg X.base CX k f sp) (hr : Room k X.A) (hg : Gl X x) (hm : X.mg x = some (.ref f)) (hk : PySem.W.keepIn X.K (.ref f) = true) (hx : Passes CX X E)
    (ha : PAn n X (e :: es) tl) (hdb : (x == ("__debug__" : Str)) = false := by decide) (he : starEach (e :: es) X.env = (false, eval e X.env) :: starEach es X.env := by rfl) (hpl : (backTo pos (starEach es X.env)).any (·.1) = false := by rfl) :
    PEn n X (.Call (.Name x p) (e :: es) [] pos) (tCall sp [] E tl) := by
  constructor
  intro pins s σ H Q l I h
  refine wpAny_Call_Name_kw (ld_glob I hg hm ?_ hdb)
  refine PySem.W.callWith_K (h₀ := X.base) I.ok.mod.kin hk (thn (ha.run pos pins s σ H _ l I h) ?_) he hpl
  rintro us s1 ⟨vs, H1, I1, r, q⟩
  rw [List.append_nil] at q
  exact ⟨I1.kIn, wpAny_call (run_fnR F hr hx I1 r q)⟩
end
/-! #### operators, tests -/
theorem pen_op {op : Operator} {r : R2} (ho : OpR X (binaryOp op) r) (ha : PEn n X a ta) (hb : PEn n X b tb) : PEn n X (.BinOp a op b pos) (tOp r ta tb) := by
  constructor
  intro pins s σ H Q l I h
  refine wpAny_BinOp (thk l (ha.run pins s σ H _ l I h) fun w s1 l1 ⟨x, H1, I1, r1, q1⟩ => ?_)
  exact thn (hb.run pins s1 σ H1 _ l1 I1 q1) fun w2 s2 ⟨y, H2, I2, r2, q2⟩ => ho pins s2 σ H2 x y w w2 Q I2 r1 r2 q2
theorem pen_cmpR {op : CmpOp} {r : R2} (ho : OpR X (compareOp op) r) (ha : PEn n X a ta) (hb : PEn n X b tb) (hm : behindInMarks op b = false) : PEn n X (.Compare a [op] [b] pos) (tOp r ta tb) := by
  constructor
  intro pins s σ H Q l I h
  refine wpAny_Compare1 (thk l (ha.run pins s σ H _ l I h) fun w s1 l1 ⟨x, H1, I1, r1, q1⟩ => ?_) hm
  exact thn (hb.run pins s1 σ H1 _ l1 I1 q1) fun w2 s2 ⟨y, H2, I2, r2, q2⟩ => ho pins s2 σ H2 x y w w2 Q I2 r1 r2 q2
theorem ptn_val (h : PEn n X e te) (he : ∀ whole, isTrue e X.env whole = (do let v ← whole; standAt e.pos; holding [v] (truthy v)) := by intro _; rfl) : PTn n X e (tB te) := by
  constructor
  intro pins s σ H Q l I hw
  refine isTrue_plain (thn (h.run pins s σ H _ l I hw) fun w s1 ⟨x, H1, I1, r1, q1⟩ => ?_) (he _)
  obtain ⟨d, rfl, q⟩ := q1
  cases r1
  exact wpAny_truthy_bool ⟨H1, I1, q⟩
theorem ptn_not (ha : PTn n X a tt) : PTn n X (.UnaryOp .Not a pos) (tNot tt) := by
  constructor
  intro pins s σ H Q l I h
  exact isTrue_not (ha.run pins s σ H (fun c H1 => Q (!c) H1) l I h)
/-- a method of texts, its argument with n tokens out -/
theorem pen_m1 {id : String} {name : Str} {apos : Pos} {r : V → List V → Hp → VK → Prop} (slot : Slot "str" name id) (ty : typeOf (.builtin id) = pure (.type "method_descriptor")) (rule : MtR X id r) (ho : PEn n X a ta) (he : PEn n X e te)
    (hs : starEach [e] X.env = [(false, eval e X.env)] := by rfl) (hbase : attributeBase a name X.env (eval a X.env) = eval a X.env := by rfl) (hline : (apos.endLine == pos.line) = true := by rfl) :
    PEn n X (.Call (.Attribute a name apos) [e] [] pos) (tM1 r ta te) := by
  constructor
  intro pins s σ H Q l I h
  refine PySem.Call_method1 hbase hs hline (thk l (ho.run pins s σ H _ l I h) ?_)
  rintro v s1 l1 ⟨x, H1, I1, r1, ⟨z, rfl⟩, q1⟩
  obtain ⟨t, rfl⟩ := _root_.id r1
  refine ⟨"str", _, F.plainAttrs_str, slot, ty, typeIs_str _ _ _, (fun _ e => nomatch e), Calls.callWith_builtin rfl (Calls.evalArgs_plain (Calls.spliced_cons ?_))⟩
  exact thn (he.run pins s1 σ H1 _ l1 I1 q1) fun w s2 ⟨y, H2, I2, r2, q2⟩ => Calls.spliced_nil (rule pins s2 σ H2 _ [y] _ [w] Q I2 r1 (.cons r2 .nil) q2)
/-- written texts replaced, a token out -/
theorem pen_replC {y z : Str} {j k : Nat} {c0 c1 apos : Pos} (hn : 1 ≤ n) (ho : PE X a ta) (hyz : (y == z) = false := by decide)
    (hst : starEach [.Constant (.str y) j c0, .Constant (.str z) k c1] X.env = [(false, eval (.Constant (.str y) j c0) X.env), (false, eval (.Constant (.str z) k c1) X.env)] := by rfl)
    (hbase : attributeBase a "replace" X.env (eval a X.env) = eval a X.env := by rfl) (hline : (apos.endLine == pos.line) = true := by rfl) :
    PEn n X (.Call (.Attribute a "replace" apos) [.Constant (.str y) j c0, .Constant (.str z) k c1] [] pos) (CwR.tReplC ta y z) :=
  ⟨fun pins s σ H Q l I h => CwR.pet_replC (j := j) (k := k) ho hyz hst hbase hline pins s σ H Q (Nat.le_trans hn l) I h⟩
end
end Pd

set_option maxHeartbeats 4000000
namespace Pd
open PySem PySem.Spec PyProof.Rows L2
/-! ### a comprehension, n tokens out -/
set_option maxHeartbeats 4000000 in
theorem pen_lc {n : Nat} {X : Cx} {elt tg iter : Expr} {ifs : List Expr} {scope : Scope} {own : List (Str × Nat)} {pos : Pos} {wi : TI} {g : TG} {tt : TT} {te : TE} (hc : X.calm = true) (hN : X.N.Nodup) (hi : PI X tg iter wi) (ok : BlkOk X.N X.env.scope scope own)
    (hg : ∀ (s : Shared) (H : Hp) (C : Addr) (cl : List (Str × Addr)) (fp : List Addr), PG (X.blk s H scope (compEnvC scope cl C X.env) fp) tg g)
    (ht : ∀ (s : Shared) (H : Hp) (C : Addr) (cl : List (Str × Addr)) (fp : List Addr), PTs (X.blk s H scope (compEnvC scope cl C X.env) fp) ifs tt)
    (he : ∀ (s : Shared) (H : Hp) (C : Addr) (cl : List (Str × Addr)) (fp : List Addr), PEn n (X.blk s H scope (compEnvC scope cl C X.env) fp) elt te) (hs : ∀ x, foldedSetIterable iter X.env x = pure x := by intro _; rfl) :
    PEn n X (.ListComp elt [⟨tg, iter, ifs, 0⟩] scope pos) (tLc wi g tt te (own.map (·.2))) := by
  constructor
  intro pins s σ H Q l0 I h
  rw [eval_ListComp]
  have hf : ∀ y ∈ scope.names, y.2 = .free → ∃ c, X.env.cells.lookup y.1 = some c := by
    intro y hy e
    rcases ok.free y hy e with k | k
    · exact I.ok.has _ (.inl k)
    · exact I.ok.has _ (.inr k)
  refine wpAny_comprehension_free (use := none) rfl hs (closure_ok hf) ok.kind (fun y hy e => by rw [ok.uniq y hy, e]) (thk l0 (hi.run pins s σ H _ I h) ?_)
  intro xv s1 l1 hx
  refine thk l1 hx ?_
  rintro itv s2 l2 ⟨it, fp, tn, J, H2, rfl, I2, T, st2, f2, q⟩
  refine wpAny_newObj_type (newEnv_comp ?_) (by show 0 ≤ sizeLine; decide)
  generalize hD : s2.heap.objs.size = D
  have dn : H2 D = none := I2.hok.fresh (Nat.le_of_eq hD)
  obtain ⟨W, ⟨m0, w0⟩, turn⟩ := q D dn
  generalize hs3 : ({ s2 with heap := s2.heap.push { cls := .type "list", data := .seq ([] : List Value).toArray } } : Shared) = s3
  have t3 : s3.toks = s2.toks := by rw [← hs3]
  have h3 : s3.heap = s2.heap.push { cls := .type "list", data := .seq ([] : List Value).toArray } := by rw [← hs3]
  have I3 : Inv X pins σ (upd H2 D (.lst [])) s3 := by
    rw [← hs3]
    refine I2.laid (t' := s2.toks) (fun b o e => Heap.get?_push_of_some _ e) (Nat.le_of_eq hD) ⟨Nat.zero_le _, [], 0, .nil, ?_⟩
    rw [← hD]
    exact Heap.get?_push_size _ rfl
  have sz : ∀ b ∈ fp, b < s2.heap.objs.size := by
    intro b hb
    obtain ⟨o, e, _⟩ := T.obj _ _ st2 b hb
    exact Heap.lt_size e
  have f3 : ∀ b ∈ fp, FpOk X pins (upd H2 D (.lst [])) b ∧ b < s3.heap.objs.size := by
    intro b hb
    have z := sz b hb
    refine ⟨⟨?_, (f2 b hb).2⟩, by rw [h3, Heap.size_push]; exact Nat.lt_succ_of_lt z⟩
    rw [upd_ne (by rw [← hD]; exact Nat.ne_of_lt z)]
    exact (f2 b hb).1
  have st3 : tn 0 s3.heap := T.keep _ _ _ st2 fun b _ o e => by rw [h3]; exact Heap.get?_push_of_some _ e
  have I4 := block_start I3 ok hN f3
  have pg := hg s3 (upd H2 D (.lst [])) s3.heap.objs.size (cellsFrom (s3.heap.objs.size + 1) scope.names (cloFrom X.env.cells scope.names [])) fp
  have pt := ht s3 (upd H2 D (.lst [])) s3.heap.objs.size (cellsFrom (s3.heap.objs.size + 1) scope.names (cloFrom X.env.cells scope.names [])) fp
  have pe := he s3 (upd H2 D (.lst [])) s3.heap.objs.size (cellsFrom (s3.heap.objs.size + 1) scope.names (cloFrom X.env.cells scope.names [])) fp
  have nfp : ∀ b ∈ fp, (upd H2 D (.lst [])) b = none := fun b hb => (f3 b hb).1.1
  show codeAny _ _ (.compStart (.ListComp elt [⟨tg, iter, ifs, 0⟩] scope pos) 0 (.ref it) (.ref D) (compEnvC scope (cellsFrom (s3.heap.objs.size + 1) scope.names (cloFrom X.env.cells scope.names [])) s3.heap.objs.size X.env))
    (compPost (model X.prog X.w) X.A X.xe none (EP X pins σ Q) (.ref D) s3.heap.objs.size) { s3 with heap := pushCells (s3.heap.push { cls := .type "dict", data := .dict #[] }) scope.names }
  generalize hce : compEnvC scope (cellsFrom (s3.heap.objs.size + 1) scope.names (cloFrom X.env.cells scope.names [])) s3.heap.objs.size X.env = ce at I4 pg pt pe ⊢
  have cL : ce.locals = s3.heap.objs.size := by subst hce; rfl
  generalize hH3 : upd H2 D (.lst []) = H3 at I3 I4 pg pt pe w0 nfp f3
  generalize hs4 : ({ s3 with heap := pushCells (s3.heap.push { cls := .type "dict", data := .dict #[] }) scope.names } : Shared) = s4 at I4 ⊢
  have l4 : n ≤ s4.toks := by rw [← hs4]; show n ≤ s3.toks; rw [t3]; exact l2
  have st4 : tn 0 s4.heap := T.keep _ _ _ st3 fun b _ o e => by rw [← hs4]; exact pushCells_keeps _ _ _ _ (Heap.get?_push_of_some _ e)
  have stat : ∀ {σ' : L2.St} {H' : Hp} {s' : Shared}, Inv (X.blk s3 H3 scope ce fp) [] σ' H' s' → (∀ b ∈ fp, H' b = none) → ∀ b ∈ fp, FpOk (X.blk s3 H3 scope ce fp) [] H' b := fun {σ' H' s'} I' hn b hb =>
    ⟨hn b hb, (I'.ok.exf b hb).1, I'.ok.exfs b hb, .inl hb, fun x c e => (I'.ok.exf b hb).2 x c e, fun p hp => absurd (show p ∈ ([] : List (Addr × Obj)) ++ [] from hp) (by simp)⟩
  have loop : codeAny (model X.prog X.w) X.A (.compLoop (.ListComp elt [⟨tg, iter, ifs, 0⟩] scope pos) 0 (.ref it) (.ref D) ce) (compPost (model X.prog X.w) X.A X.xe none (EP X pins σ Q) (.ref D) s3.heap.objs.size) s4 := by
    refine compLoop_any (fun m s' => n ≤ s'.toks ∧ ∃ i H', Inv (X.blk s3 H3 scope ce fp) [] (wipe σ (own.map (·.2))) H' s' ∧ tn i s'.heap ∧ (∀ b ∈ fp, H' b = none) ∧ W i m H') ?_ m0 ⟨l4, 0, H3, I4, st4, nfp, w0⟩
    rintro m s5 ⟨l5, i, H5, I5, st5, n5, w5⟩
    rcases turn i m H5 w5 with ⟨stop, qq⟩ | ⟨go, Nx, hNx, step⟩
    · refine thnF (T.done (X.blk s3 H3 scope ce fp) rfl rfl rfl hc i [] s5 _ H5 (fun _ _ => False) I5 (stat I5 n5) st5 stop) ?_
      rintro r s6 ⟨rfl, I6⟩
      have I7 : Inv X pins σ H5 s6 := I3.call' (ch := fp) I6.os I6.base I6.hok I6.bare fun b hb => ⟨(f3 b hb).1.2.2.2.1, (f3 b hb).1.2.1, (f3 b hb).1.2.2.2.2.1, (f3 b hb).1.2.2.2.2.2⟩
      have nC : H5 s3.heap.objs.size = none := by
        have z : H5 ce.locals = none := I6.free
        rw [cL] at z
        exact z
      obtain ⟨mm, hn, _⟩ := I6.loc
      have hn : s6.heap.Ns ce.locals mm := hn
      rw [cL] at hn
      obtain ⟨g0, g1, g2, g3, g4, g5⟩ := I3.fpOk (H' := H5) (Nat.le_refl _) nC
      exact ⟨mm, hn, fun g sb => ⟨.ref D, H5, I7.turned (t' := s6.toks) (fun b o hb e => (sb.2 b hb).trans e) g0 g1 g3 g4 g5, rfl, qq⟩⟩
    · refine thnF (tkE l5 (T.item (X.blk s3 H3 scope ce fp) rfl rfl rfl hc i [] s5 _ H5 (fun _ _ => False) I5 (stat I5 n5) st5 go)) ?_
      rintro r s6 ⟨l6, u, rfl, h6⟩
      refine thnF (tkE l6 h6) ?_
      rintro _ s7 ⟨l7, x, H7, I7, r7, y7, st7, n7⟩
      have I7' := I7.pinned (stat I7 n7) (T.obj _ _ st7)
      refine thnF (tkE l7 (pg.run _ s7 _ H7 x u _ I7' r7 (step x H7 y7))) ?_
      rintro _ s8 ⟨l8, σ8, H8, I8, hw8, q8⟩
      refine thnF (tkE l8 (pt.run _ s8 σ8 H8 _ I8 q8)) ?_
      rintro b s9 ⟨l9, H9, I9, q9⟩
      have fin : ∀ {s' : Shared} {H' : Hp}, n ≤ s'.toks → Inv (X.blk s3 H3 scope ce fp) ([] ++ pinsAt fp s7.heap) σ8 H' s' → Nx H' →
          ∃ m', m' < m ∧ n ≤ s'.toks ∧ ∃ i H', Inv (X.blk s3 H3 scope ce fp) [] (wipe σ (own.map (·.2))) H' s' ∧ tn i s'.heap ∧ (∀ b ∈ fp, H' b = none) ∧ W i m' H' := by
        intro s' H' ls I' nx
        obtain ⟨m', hm, w'⟩ := hNx H' nx
        have pin' : ∀ b ∈ fp, ∀ o, s7.heap.get? b = some o → s'.heap.get? b = some o ∧ H' b = none := fun b hb o e =>
          let z := I'.pin (b, o) (List.mem_append_right _ (List.mem_append_right _ (mem_pinsAt hb e)))
          ⟨z.1, z.2.1⟩
        have hl : (wipe σ (own.map (·.2))).length = σ8.length := by rw [← hw8, wipe_length]
        refine ⟨m', hm, ls, i + 1, H', (I'.unpinned (pins := [])).weak hl (fun j v e => ?_), T.keep _ _ _ st7 fun b hb o e => (pin' b hb o e).1, fun b hb => ?_, w'⟩
        · rw [← hw8] at e
          exact (wipe_some e).1
        · obtain ⟨o, e, _⟩ := T.obj _ _ st7 b hb
          exact (pin' b hb o e).2
      cases b with
      | false =>
        simp only [Bool.false_eq_true, if_false] at q9 ⊢
        exact fin l9 I9 q9
      | true =>
        simp only [if_true] at q9 ⊢
        refine thnF (tkE l9 (pe.run _ s9 σ8 H9 _ l9 I9 q9)) ?_
        rintro z s10 ⟨l10, yv, H10, I10, r10, acc, hD10, hz10, nx⟩
        refine thnF (tkE l10 (app_ok (X := X.blk s3 H3 scope ce fp) (Q := fun _ s' => Inv (X.blk s3 H3 scope ce fp) ([] ++ pinsAt fp s7.heap) σ8 (upd H10 D (.lst (acc ++ [yv]))) s') I10 hD10 hz10 r10 fun s11 I11 => I11)) ?_
        rintro _ s11 ⟨l11, I11⟩
        exact fin l11 I11 nx
  exact codeAny_compStart_list loop (T.self X.A 0 _ _ _ st4 loop)
/-! ### defs -/
theorem fnN_of {P : Program} {w : World} {K : PySem.W.Frag} {mg : Str → Option Value} {base : Heap} {x qual : Str} {st : Stmt} {f : Addr} {fd : FuncData} {N ps : List Str} {k n : Nat} {sp : Sp}
    (F : Fun K x qual st f fd) (S : FnScope N ps (defScope st))
    (hb : ∀ (kV doc pm : Value) (an : Option Addr) (cdv ct : Value) (us : List Value), us.length = ps.length → bindArgs (PySem.W.fnOf x qual (defArgs st) (defBody st) (defScope st) .none kV doc pm an cdv ct) ⟨us, []⟩ = pure (ps.zip us))
    (len : ∀ vs H Q E, sp vs H Q E → vs.length = ps.length)
    (hbody : ∀ (cdv : Value) (A : Around) (outer : List Env) (s : Shared) (H : Hp) (vs : List V) (Q : VK) (E : XK), Room k (A.deeper (envOfC qual (defScope st) s.heap.objs.size f cdv)) → sp vs H Q E →
      ∃ t, PSsn n (cxOf CX0 P w K mg base N qual (defScope st) f cdv A outer s H E) (defBody st) t ∧ t { nx := fun _ H' => Q .non H', rt := Q } (start N vs) H) : FnN n P w K mg base (k + 1) f sp := by
  obtain ⟨oc, od, kV, doc, pm, an, cdv, ct, osl, rfl, lk, hcd⟩ := F.ex
  intro A outer s H us vs Q E l0 hr e0 r hsp
  have hl : us.length = ps.length := r.length.symm.trans (len _ _ _ _ hsp)
  have KX : K.In s.heap := e0.mod.kin.keeps fun b o e => (e0.bs b o e).1
  have lim : s.heap.NoLimit := e0.mod.nolimit.keeps fun b o e => (e0.bs b o e).1
  have hkind : ∀ y ∈ ps.zip us, (defScope st).names.lookup y.1 = some .local ∨ ((defScope st).names.lookup y.1 = some .cell ∧ ((cellsFrom (s.heap.objs.size + 1) (defScope st).names []).lookup y.1).isSome = true) := fun y hy => by
    rcases S.par y.1 (List.of_mem_zip hy).1 with q | q
    · exact .inl q
    · exact .inr ⟨q, PySem.W.cellsFrom_some _ _ _ (.inl q)⟩
  refine codeAny_call_function hr.depth (KX _ _ lk) rfl S.co S.gen rfl (PySem.W.codeRec_of KX hcd) (BindsTo.of_eq (hb kV doc pm an cdv ct us hl) _ _ _ _ ?_)
  refine wpAny_mono (tkE (Nat.le_refl s.toks) (wpAny_newFunctionEnv_cells S.kind hkind fun env he s1 x => (⟨he, x⟩ : env = _ ∧ InCallC s _ _ _ _ s1))) ?_ fun _ _ z => z
  rintro env s1 ⟨ht, rfl, x⟩
  refine ⟨lim.keeps x.toInCall.keep, codeAny_func ?_⟩
  obtain ⟨t, he, hq⟩ := hbody cdv A outer s H vs Q E (hr.deeper _) hsp
  have I : Inv (cxOf CX0 P w K mg base N qual (defScope st) f cdv A outer s H E) [] (start N vs) H s1 := inv_start S hr.hd e0 (len _ _ _ _ hsp) r x
  refine wpAny_mono (he.run [] s1 _ H _ (Nat.le_trans l0 ht) I hq) (fun fl s' hs => ?_) fun _ _ z => z
  cases fl with
  | ret u =>
    obtain ⟨v, σ', H', J, rv, q⟩ := hs
    exact ⟨v, H', J.os, J.bare, J.base, J.hok, rv, q⟩
  | next =>
    obtain ⟨σ', H', J, q⟩ := hs
    exact ⟨.non, H', J.os, J.bare, J.base, J.hok, rfl, q⟩
  | brk =>
    obtain ⟨_, _, _, q⟩ := hs
    exact False.elim q
  | cont =>
    obtain ⟨_, _, _, q⟩ := hs
    exact False.elim q
/-- a def with a parameter: behind the binding a token is out -/
theorem fnOk_1 {P : Program} {w : World} {K : PySem.W.Frag} {mg : Str → Option Value} {base : Heap} {x qual : Str} {st : Stmt} {f : Addr} {fd : FuncData} {N ps : List Str} {k : Nat} {sp : Sp} {CX : CXT}
    (F : Fun K x qual st f fd) (S : FnScope N ps (defScope st)) (hnc : ∀ y ∈ (defScope st).names, y.2 ≠ .cell) (hps : 1 ≤ ps.length)
    (len : ∀ vs H Q E, sp vs H Q E → vs.length = ps.length)
    (hbody : ∀ (cdv : Value) (A : Around) (outer : List Env) (s : Shared) (H : Hp) (vs : List V) (Q : VK) (E : XK), Room k (A.deeper (envOfC qual (defScope st) s.heap.objs.size f cdv)) → sp vs H Q E →
      ∃ t, PSsn 1 (cxOf CX P w K mg base N qual (defScope st) f cdv A outer s H E) (defBody st) t ∧ t { nx := fun _ H' => Q .non H', rt := Q } (start N vs) H) : FnOk P w K mg base CX (k + 1) f fd ps sp := by
  obtain ⟨oc, od, kV, doc, pm, an, cdv, ct, osl, rfl, lk, hcd⟩ := F.ex
  exact fn_ofT lk hcd S hnc hps len fun A outer s H vs Q E hr h => by
    obtain ⟨t, h1, h2⟩ := hbody cdv A outer s H vs Q E hr h
    exact ⟨t, h1.toT, h2⟩
end Pd

set_option maxHeartbeats 2000000
namespace Pd
open PySem PySem.Spec PyProof.Rows L2
/-! ### a sign of a text, as a new text -/
def tIxS (ta tb : TE) : TE := fun σ H Q => ta σ H fun x H1 => ∃ z : Str, x = .str z ∧ tb σ H1 fun y H2 => ∃ (i : Int) (c : Nat), y = .int i ∧ 0 ≤ i ∧ i < z.length ∧ z.length ≤ 1000 ∧ z.cps[i.toNat]? = some c ∧ Q (.str ⟨#[c]⟩) H2
/-- as PEF, but the new token may be the first free one -/
structure PEG (X : Cx) (e : Expr) (t : TE) : Prop where
  run : ∀ (pins : List (Addr × Obj)) (s : Shared) (σ : L2.St) (H : Hp) (Q : VK), Inv X pins σ H s → t σ H Q →
    wpAny (model X.prog X.w) X.A (eval e X.env) (fun u s' => EP X pins σ Q u s' ∧ s.toks ≤ s'.toks ∧ Frsh s.toks s'.toks u) X.xe s
theorem PEF.peg {X : Cx} {e : Expr} {t : TE} (h : PEF X e t) : PEG X e t := ⟨fun pins s σ H Q I q => thn (h.run pins s σ H Q I q) fun u s' ⟨a, b, x, t, e, l1, l2⟩ => ⟨a, b, x, t, e, by omega, l2⟩⟩
theorem peg_ix {X : Cx} {a b : Expr} {ta tb : TE} {pos : Pos} (ha : PE X a ta) (hb : PE X b tb) (hs : PlainIxT b) : PEG X (.Subscript a b pos) (tIxS ta tb) := by
  constructor
  intro pins s σ H Q I h
  refine Subscript_ (thk (Nat.le_refl s.toks) (ha.run pins s σ H _ I h) ?_)
  rintro u0 s1 l1 ⟨x, H1, I1, rx, z, rfl, h1⟩
  obtain ⟨tz, rfl⟩ := rx
  refine thk l1 (hb.run pins s1 σ H1 _ I1 h1) ?_
  rintro u s2 l2 ⟨y, H2, I2, ry, i, c, rfl, h0, h1, hz, hc, q⟩
  obtain ⟨t, rfl⟩ := ry
  have e : seqIndex? i z.length = some i.toNat := PySem.StrLaws.seqIndex_nonneg h0 h1
  refine tail_any (typeIs_str s2 z tz) slot_str_getitem.lookup (getItem_str (c := c) ?_ (by rw [e]; exact hc) ⟨⟨.str ⟨#[c]⟩, H2, I2.tok _, ⟨_, rfl⟩, q⟩, ?_, _, _, rfl, ?_, ?_⟩) (hs _ _)
  · rw [decide_eq_false (by omega), decide_eq_false (by omega)]; rfl
  · show s.toks ≤ s2.toks + 1; omega
  · exact l2
  · exact Nat.lt_succ_self _
/-! ### a test that gives out a token -/
structure PTF (X : Cx) (e : Expr) (t : TT) : Prop where
  run : ∀ (pins : List (Addr × Obj)) (s : Shared) (σ : L2.St) (H : Hp) (Q : Bool → Hp → Prop), Inv X pins σ H s → t σ H Q →
    wpAny (model X.prog X.w) X.A (isTrue e X.env (eval e X.env)) (fun b s' => TP X pins σ Q b s' ∧ s.toks + 1 ≤ s'.toks) X.xe s
def tEqI (k : Int) (ta : TE) : TT := fun σ H Q => ta σ H fun x H1 => ∃ n : Int, x = .int n ∧ Q (n == k) H1
theorem ptf_eqI {X : Cx} {a : Expr} {ta : TE} {k : Int} {j : Nat} {cp pos : Pos} (ha : PE X a ta) : PTF X (.Compare a [.Eq] [.Constant (.int k) j cp] pos) (tEqI k ta) := by
  constructor
  intro pins s σ H Q I h
  refine wpAny_isTrue_Compare1 (thk (Nat.le_refl s.toks) (ha.run pins s σ H _ I h) ?_)
  rintro u s1 l1 ⟨x, H1, I1, rx, n, rfl, q⟩
  obtain ⟨t, rfl⟩ := rx
  exact wpAny_Constant_int (eq_int (wpAny_truthy_bool ⟨⟨H1, I1.tok _, q⟩, Nat.succ_le_succ l1⟩))
/-! ### a def of two returns that gives a new text -/
theorem fnT_if {P : Program} {w : World} {K : PySem.W.Frag} {mg : Str → Option Value} {base : Heap} {x qual : Str} {st : Stmt} {f : Addr} {fd : FuncData} {N ps : List Str} {k : Nat} {sp : Sp} {c e1 e2 : Expr} {p1 p2 p3 : Pos}
    (F : Fun K x qual st f fd) (S : FnScope N ps (defScope st)) (hst : defBody st = [.If c [.Return (some e1) p1] [] p2, .Return (some e2) p3])
    (hb : ∀ (kV doc pm : Value) (an : Option Addr) (cdv ct : Value) (us : List Value), us.length = ps.length → bindArgs (PySem.W.fnOf x qual (defArgs st) (defBody st) (defScope st) .none kV doc pm an cdv ct) ⟨us, []⟩ = pure (ps.zip us))
    (len : ∀ vs H Q E, sp vs H Q E → vs.length = ps.length)
    (hbody : ∀ (cdv : Value) (A : Around) (outer : List Env) (s : Shared) (H : Hp) (vs : List V) (Q : VK) (E : XK), Room k (A.deeper (envOfC qual (defScope st) s.heap.objs.size f cdv)) → sp vs H Q E →
      ∃ tc t1 t2, PTF (cxOf CX0 P w K mg base N qual (defScope st) f cdv A outer s H E) c tc ∧ PEG (cxOf CX0 P w K mg base N qual (defScope st) f cdv A outer s H E) e1 t1 ∧ PEG (cxOf CX0 P w K mg base N qual (defScope st) f cdv A outer s H E) e2 t2 ∧
        tc (start N vs) H fun b H1 => if b = true then t1 (start N vs) H1 Q else t2 (start N vs) H1 Q) : FnT P w K mg base CX0 (k + 1) f sp := by
  obtain ⟨oc, od, kV, doc, pm, an, cdv, ct, osl, rfl, lk, hcd⟩ := F.ex
  intro A outer s H us vs Q E hr e0 r hsp
  have hl : us.length = ps.length := r.length.symm.trans (len _ _ _ _ hsp)
  have KX : K.In s.heap := e0.mod.kin.keeps fun b o e => (e0.bs b o e).1
  have lim : s.heap.NoLimit := e0.mod.nolimit.keeps fun b o e => (e0.bs b o e).1
  have hkind : ∀ y ∈ ps.zip us, (defScope st).names.lookup y.1 = some .local ∨ ((defScope st).names.lookup y.1 = some .cell ∧ ((cellsFrom (s.heap.objs.size + 1) (defScope st).names []).lookup y.1).isSome = true) := fun y hy => by
    rcases S.par y.1 (List.of_mem_zip hy).1 with q | q
    · exact .inl q
    · exact .inr ⟨q, PySem.W.cellsFrom_some _ _ _ (.inl q)⟩
  refine codeAny_call_function hr.depth (KX _ _ lk) rfl S.co S.gen rfl (PySem.W.codeRec_of KX hcd) (BindsTo.of_eq (hb kV doc pm an cdv ct us hl) _ _ _ _ ?_)
  refine wpAny_mono (tkE (Nat.le_refl s.toks) (wpAny_newFunctionEnv_cells S.kind hkind fun env he s1 x => (⟨he, x⟩ : env = _ ∧ InCallC s _ _ _ _ s1))) ?_ fun _ _ z => z
  rintro env s1 ⟨ht, rfl, x⟩
  refine ⟨lim.keeps x.toInCall.keep, codeAny_func ?_⟩
  obtain ⟨tc, t1, t2, hc, h1, h2, hq⟩ := hbody cdv A outer s H vs Q E (hr.deeper _) hsp
  have I : Inv (cxOf CX0 P w K mg base N qual (defScope st) f cdv A outer s H E) [] (start N vs) H s1 := inv_start S hr.hd e0 (len _ _ _ _ hsp) r x
  rw [hst]
  have fin : ∀ {s2 : Shared} {H2 : Hp} {e : Expr} {t : TE}, s.toks + 1 ≤ s2.toks → PEG (cxOf CX0 P w K mg base N qual (defScope st) f cdv A outer s H E) e t → Inv (cxOf CX0 P w K mg base N qual (defScope st) f cdv A outer s H E) [] (start N vs) H2 s2 → t (start N vs) H2 Q →
      ∀ {p : Pos}, wpAny (model P w) (cxOf CX0 P w K mg base N qual (defScope st) f cdv A outer s H E).A (exec (.Return (some e) p) (cxOf CX0 P w K mg base N qual (defScope st) f cdv A outer s H E).env) (fun fl s' => ∃ u, fl = .ret u ∧ CE outer P w H s Q u s' ∧ s.toks ≤ s'.toks ∧ Frsh (s.toks + 1) s'.toks u) (cxOf CX0 P w K mg base N qual (defScope st) f cdv A outer s H E).xe s2 := by
    intro s2 H2 e t l2 pe I2 q2 p
    refine wpAny_Return_some (wpAny_mono (pe.run [] s2 _ H2 Q I2 q2) ?_ fun _ _ z => z)
    rintro u s' ⟨⟨v, H', J, rv, q⟩, m1, xz, tz, rfl, m2, m3⟩
    exact ⟨_, rfl, ⟨v, H', J.os, J.bare, J.base, J.hok, rv, q⟩, by omega, xz, tz, rfl, by omega, m3⟩
  have run : wpAny (model P w) (cxOf CX0 P w K mg base N qual (defScope st) f cdv A outer s H E).A (execs [.If c [.Return (some e1) p1] [] p2, .Return (some e2) p3] (cxOf CX0 P w K mg base N qual (defScope st) f cdv A outer s H E).env) (fun fl s' => ∃ u, fl = .ret u ∧ CE outer P w H s Q u s' ∧ s.toks ≤ s'.toks ∧ Frsh (s.toks + 1) s'.toks u)
      (cxOf CX0 P w K mg base N qual (defScope st) f cdv A outer s H E).xe s1 := by
    refine wpAny_execs_cons (wpAny_If (thn (hc.run [] s1 _ H _ I hq) fun d s2 ⟨⟨H2, I2, q2⟩, l1⟩ => ?_))
    have l2 : s.toks + 1 ≤ s2.toks := Nat.le_trans (Nat.succ_le_succ ht) l1
    cases d with
    | true =>
      refine wpAny_execs_cons (wpAny_mono (fin l2 h1 I2 q2) ?_ fun _ _ z => z)
      rintro fl s3 ⟨u, rfl, r3⟩
      exact ⟨u, rfl, r3⟩
    | false =>
      refine wpAny_execs_nil ?_
      refine wpAny_execs_cons (wpAny_mono (fin l2 h2 I2 q2) ?_ fun _ _ z => z)
      rintro fl s3 ⟨u, rfl, r3⟩
      exact ⟨u, rfl, r3⟩
  refine wpAny_mono run ?_ ?_
  · rintro fl s' ⟨u, rfl, ce, l, fr⟩
    refine ⟨ce, fun u' e => ?_⟩
    injection e with e
    injection e with e
    subst e
    exact ⟨l, fr⟩
  · intro e s' h
    exact wpAny_mono h (fun _ _ h => ⟨h, fun _ e => nomatch e⟩) fun _ _ h => ⟨h, fun _ e => nomatch e⟩
/-! ### return ('swap', e1, e2), both new texts -/
def tSwapT (t1 t2 : TE) : TS := fun D σ H => t1 σ H fun x H1 => t2 σ H1 fun y H2 => ∃ a b : Str, x = .str a ∧ y = .str b ∧ ∀ p H3, H2 p = none → SwapAt H3 p a b → (∀ c, c ≠ p → H3 c = H2 c) → D.rt (.ref p) H3
theorem ps_retSwap {X : Cx} {e1 e2 : Expr} {t1 t2 : TE} {j k : Nat} {c p q : Pos} (h1 : PEF X e1 t1) (h2 : PEF X e2 t2)
    (hst : starEach [.Constant (.str "swap") j c, e1, e2] X.env = [(false, eval (.Constant (.str "swap") j c) X.env), (false, eval e1 X.env), (false, eval e2 X.env)] := by rfl) :
    PS X (.Return (some (.Tuple [.Constant (.str "swap") j c, e1, e2] k p)) q) (tSwapT t1 t2) := by
  constructor
  intro pins s σ H D I h
  refine wpAny_Return_some (Tuple_ ?_)
  rw [hst]
  show wpAny _ _ (spliced ((false, eval (.Constant (.str "swap") j c) X.env) :: (false, eval e1 X.env) :: [(false, eval e2 X.env)])) _ _ _
  refine Calls.spliced_cons (Calls.Constant_str (Calls.spliced_cons ?_))
  refine thn (h1.run pins _ σ H _ (I.tok _) h) ?_
  rintro u1 s1 ⟨⟨x, H1, I1, r1, h'⟩, l1, z1, k1, rfl, m1, m2⟩
  refine Calls.spliced_cons (thn (h2.run pins s1 σ H1 _ I1 h') ?_)
  rintro u2 s2 ⟨⟨y, H2, I2, r2, a, b, rfl, rfl, fin⟩, l2, z2, k2, rfl, m3, m4⟩
  obtain rfl : z1 = a := by obtain ⟨_, e⟩ := r1; injection e
  obtain rfl : z2 = b := by obtain ⟨_, e⟩ := r2; injection e
  refine Calls.spliced_nil (wpAny_newTuple ?_ (by show 3 ≤ sizeLine; decide))
  have new : H2 s2.heap.objs.size = none := I2.hok.fresh (Nat.le_refl _)
  refine ⟨.ref s2.heap.objs.size, σ, upd H2 s2.heap.objs.size (.frz { cls := .type "tuple", data := .seq #[.str "swap" s.toks, .str z1 k1, .str z2 k2] 0 } (.tup [.str "swap", .str z1, .str z2])), ?_, rfl, fin _ _ new ⟨0, _, k1, k2, upd_same, ?_, ?_, fun z => ?_⟩ fun b hb => upd_ne hb⟩
  · exact I2.laid (t' := s2.toks) (fun b o q => Heap.get?_push_of_some _ q) (Nat.le_refl _) ⟨Heap.get?_push_size _ rfl, by show 3 ≤ sizeLine; decide, [.str "swap" _, .str z1 k1, .str z2 k2], .cons ⟨_, rfl⟩ (.cons ⟨_, rfl⟩ (.cons ⟨_, rfl⟩ .nil)), ⟨_, Heap.get?_push_size _ rfl, rfl, _, rfl⟩⟩
  · exact Nat.ne_of_gt (Nat.lt_of_lt_of_le (Nat.succ_pos _) m1)
  · exact Nat.ne_of_gt (Nat.lt_of_lt_of_le (Nat.succ_pos _) m3)
  · subst z
    exact absurd (Nat.lt_of_lt_of_le m2 (Nat.le_of_succ_le m3)) (Nat.lt_irrefl _)
end Pd

set_option maxHeartbeats 2000000
namespace Pd
open PySem PySem.Spec PyProof.Rows L2
theorem callR_or {X : Cx} {f : Value} {r1 r2 : List V → Hp → VK → Prop} (h1 : CallR X f r1) (h2 : CallR X f r2) : CallR X f (fun xs H Q => r1 xs H Q ∨ r2 xs H Q) := by
  intro pins s σ H xs us Q I r h
  rcases h with h | h
  · exact h1 pins s σ H xs us Q I r h
  · exact h2 pins s σ H xs us Q I r h
/-- f(k = v, ..) -/
theorem pe_callK0 {X : Cx} {CX : CXT} {k : Nat} {f : Addr} {fd : FuncData} {ps ks : List Str} {sp : Sp} {E : XK} {x : Str} {p pos : Pos} {kws : List Keyword} {tk : TA} {g : List Value → List Value → List Value} {gV : List V → List V → List V}
    (F : FnOk X.prog X.w X.K X.mg X.base CX k f fd ps sp) (hr : Room k X.A) (hg : Gl X x) (hm : X.mg x = some (.ref f)) (hk : PySem.W.keepIn X.K (.ref f) = true) (hb : KBn X.K fd ps 0 ks g gV) (hx : Passes CX X E) (hkw : PK X kws tk)
    (hall : (backToKw pos (keywordEach kws X.env)).all (·.1.isSome) = true := by rfl) (hks : (backToKw pos (keywordEach kws X.env)).filterMap (·.1) = ks := by rfl) (hdb : (x == ("__debug__" : Str)) = false := by decide)
    (hpl : ((backTo pos (starEach [] X.env)).any (·.1) || (backToKw pos (keywordEach kws X.env)).any (·.1.isNone)) = false := by rfl) :
    PE X (.Call (.Name x p) [] kws pos) (tCallN 0 ks.length sp gV E tNil tk) := by
  constructor
  intro pins s σ H Q I h
  refine wpAny_Call_Name_kw (ld_glob I hg hm ?_ hdb)
  refine PySem.W.callWith_KW0 (h₀ := X.base) I.ok.mod.kin hk hall ?_ hpl
  refine thn (hkw.run pos pins s σ H _ I h) fun ws s2 ⟨zs, H2, I2, rz, l1, l2, q2⟩ => ⟨I2.kIn, ?_⟩
  rw [hks]
  exact L2.run_fnN (us := []) (vs := []) F hr hb hx I2 .nil rz rfl l2 q2
end Pd

namespace Pd
open PySem PySem.Spec PyProof.Rows L2
/-! ### len(o) and o[i] of an own class -/
section
variable {X : Cx} {CX : CXT} {C g : Addr} {n : Nat} {sp : Sp} {E : XK}
/-- a def run one deeper -/
theorem run_fnR1 {pins : List (Addr × Obj)} {σ : L2.St} {H : Hp} {s : Shared} {f : Addr} {Q : VK} {us : List Value} {vs : List V} (F : FnR X.prog X.w X.K X.mg X.base CX n f sp) (hr : Room (n + 1) X.A) (hx : Passes CX X E) (I : Inv X pins σ H s) (r : Vals vs us) (h : sp vs H Q E) :
    codeAny (model X.prog X.w) X.A.in1 (.call (.ref f) ⟨us, []⟩) (fun r s' => match r with | .ok (.ret v) => EP X pins σ Q v s' | .ok _ => False | .error e => X.xe e s') s := by
  refine codeAny_mono (F X.A.in1 X.stack s H us vs Q E hr.in1 I.env0.in1 r h) fun r s' hq => ?_
  cases r with
  | error e => exact hx pins σ H s e s' I hq
  | ok fl =>
    cases fl with
    | ret u => exact I.after hq
    | next => exact False.elim hq
    | brk => exact False.elim hq
    | cont => exact False.elim hq
/-- the reading of len(o) -/
def rLenOwn (C : Addr) (sp : Sp) (E : XK) : List V → Hp → VK → Prop := fun xs H Q => ∃ a dx fs, xs = [.ref a] ∧ H a = some (.ins C dx fs) ∧ sp [.ref a] H (fun z H' => ∃ k : Nat, z = .int k ∧ k < 2 ^ 60 ∧ Q (.int k) H') E
theorem call_lenOwn (hs : PySem.W.findIn X.K (.ref C) "__len__" = some (some (.ref g))) (hf : PySem.W.isFn X.K (.ref g) = true) (F : FnR X.prog X.w X.K X.mg X.base CX n g sp) (hr : Room (n + 1) X.A) (hx : Passes CX X E) :
    CallR X (.builtin "len") (rLenOwn C sp E) := by
  intro pins s σ H xs us Q I r h
  obtain ⟨a, dx, fs, rfl, ha, q⟩ := h
  cases r with
  | cons rx rr =>
    cases rr
    cases rx
    obtain ⟨mA, J, _⟩ := ins_get I.hok ha
    obtain ⟨od, J, _⟩ := J.look
    obtain ⟨m, hF⟩ := I.fr
    refine PySem.W.len_K hF I.ok.mod.kin J hs hf ?_
    refine wpAny_mono (wpAny_call (run_fnR1 (us := [.ref a]) (vs := [.ref a]) F hr hx I (.cons rfl .nil) q)) (fun w s' z => ?_) fun _ _ x => x
    obtain ⟨z', H', I', rz, k, rfl, hk, qz⟩ := z
    obtain ⟨t, e⟩ : ∃ t, w = Value.int (k : Nat) t := rz
    subst e
    exact ⟨⟨by omega, by omega⟩, .int k, H', I'.tok _, ⟨_, rfl⟩, qz⟩
/-- the reading of o[i] -/
def rIxOwn (C : Addr) (sp : Sp) (E : XK) : R2 := fun x y H Q => ∃ a dx fs, x = .ref a ∧ H a = some (.ins C dx fs) ∧ sp [.ref a, y] H Q E
theorem pe_ixOwn (hs : PySem.W.findIn X.K (.ref C) "__getitem__" = some (some (.ref g))) (hf : PySem.W.isFn X.K (.ref g) = true) (hfi : PySem.W.fnIn X.K g = true) (F : FnR X.prog X.w X.K X.mg X.base CX n g sp) (hr : Room (n + 1) X.A) (hx : Passes CX X E) {a b : Expr} {ta tb : TE} {pos : Pos} (ha : PE X a ta) (hb : PE X b tb)
    (hsl : ∀ o i, subscripted b true o i = runValue (.builtin "lifetime.subscript" ⟨[o, i], []⟩) := by intro o i; with_unfolding_all rfl) : PE X (.Subscript a b pos) (tOp (rIxOwn C sp E) ta tb) := by
  refine ⟨fun pins s σ H Q I h => ?_⟩
  refine Subscript_ (binT ha hb I h fun v u s x y H I rx ry h => ?_)
  obtain ⟨a, dx, fs, rfl, ha, q⟩ := h
  cases (show v = Value.ref a from rx)
  obtain ⟨mA, J, _⟩ := ins_get I.hok ha
  obtain ⟨od, J, _⟩ := J.look
  obtain ⟨m, hF⟩ := I.fr
  refine PySem.W.sub_K hF I.ok.mod.kin J hs hfi hf ?_ (hsl _ _)
  exact wpAny_call (run_fnR1 (us := [.ref a, u]) (vs := [.ref a, y]) F hr hx I (.cons rfl (.cons ry .nil)) q)
end
end Pd

namespace Pd
open PySem L2
def top (i : Nat) : Stmt := PySem.Challenge.pw_plaindoors_k13_doors_texts_refused.main.body.getD i (.Pass ⟨0, 0, 0, 0⟩)
abbrev sWall : Stmt := top 0
abbrev sIsCharacter : Stmt := top 4
abbrev sIsText : Stmt := top 5
abbrev sIsInteger : Stmt := top 9
abbrev sIsStep : Stmt := top 10
abbrev sIsChoice : Stmt := top 11
abbrev sMadeBySteps : Stmt := top 12
abbrev sMadeByStep : Stmt := top 13
abbrev sOnce : Stmt := top 14
abbrev sNostepInit : Stmt := inClass (top 18) 0
abbrev sNopartInit : Stmt := inClass (top 19) 0
abbrev sNolineInit : Stmt := inClass (top 20) 0
abbrev sDoorsInit : Stmt := inClass (top 22) 0
abbrev sDoorsEq : Stmt := inClass (top 22) 1
abbrev sDoorsPut : Stmt := inClass (top 22) 2
abbrev sDoorsFind : Stmt := inClass (top 22) 3
abbrev sDoorsStrike : Stmt := inClass (top 22) 4
abbrev sDoorsWish : Stmt := inClass (top 22) 5
abbrev sDoorsFolded : Stmt := inClass (top 22) 6
abbrev sFoldingInit : Stmt := inClass (top 25) 0
abbrev sFoldingCall : Stmt := inClass (top 25) 1
abbrev sFoldingGetitem : Stmt := inClass (top 25) 2
abbrev sFoldingIter : Stmt := inClass (top 25) 3
abbrev sFoldingLen : Stmt := inClass (top 25) 4
abbrev sFoldingEq : Stmt := inClass (top 25) 5
abbrev sFoldingAdd : Stmt := inClass (top 25) 6
abbrev sFoldingContains : Stmt := inClass (top 25) 7
abbrev sFoldingSteps : Stmt := inClass (top 25) 8
abbrev sFoldingWithout : Stmt := inClass (top 25) 9
abbrev sReadFolding : Stmt := top 31
abbrev sReadDoors : Stmt := top 32
abbrev sStepOf : Stmt := top 33
abbrev sNumberOf : Stmt := top 34
abbrev sFoldingOf : Stmt := top 35
abbrev sLawWell : Stmt := top 37
abbrev sLawDraw : Stmt := top 38
abbrev sLawChars : Stmt := top 39
abbrev sLawPool : Stmt := top 40
abbrev sLawCharacter : Stmt := top 41
abbrev sLawStep : Stmt := top 42
abbrev sLawSteps : Stmt := top 43
abbrev sLawDoors : Stmt := top 44
abbrev sLawPart : Stmt := top 45
abbrev sLawFoldingText : Stmt := top 46
abbrev sLawDoorsText : Stmt := top 47
abbrev sLawSame : Stmt := top 48
abbrev sLawWhole : Stmt := top 49
abbrev sLawGuess : Stmt := top 50
abbrev sLawIsStep : Stmt := top 51
abbrev sLawRead : Stmt := top 52
abbrev sLawEdit : Stmt := top 53
abbrev sLawNearPart : Stmt := top 54
abbrev sLawSpoilt : Stmt := top 55
abbrev sLawDue : Stmt := top 56
abbrev sLawSpoiltLines : Stmt := top 57
abbrev sLawTried : Stmt := top 58
abbrev sLawClasses : Stmt := top 59
abbrev sLawRight : Stmt := top 60
abbrev sLaw : Stmt := top 61
theorem scWall : FnScope ["k"] ["k"] (defScope sWall) := ⟨rfl, rfl, rfl, by decide +kernel, rfl, by decide +kernel, by decide +kernel⟩
theorem scIsCharacter : FnScope ["value"] ["value"] (defScope sIsCharacter) := ⟨rfl, rfl, rfl, by decide +kernel, rfl, by decide +kernel, by decide +kernel⟩
theorem scIsText : FnScope ["value", "character"] ["value"] (defScope sIsText) := ⟨rfl, rfl, rfl, by decide +kernel, rfl, by decide +kernel, by decide +kernel⟩
theorem scIsInteger : FnScope ["value"] ["value"] (defScope sIsInteger) := ⟨rfl, rfl, rfl, by decide +kernel, rfl, by decide +kernel, by decide +kernel⟩
theorem scIsStep : FnScope ["value", "name"] ["value"] (defScope sIsStep) := ⟨rfl, rfl, rfl, by decide +kernel, rfl, by decide +kernel, by decide +kernel⟩
theorem scIsChoice : FnScope ["value", "character"] ["value"] (defScope sIsChoice) := ⟨rfl, rfl, rfl, by decide +kernel, rfl, by decide +kernel, by decide +kernel⟩
theorem scMadeBySteps : FnScope ["steps", "text", "step"] ["steps", "text"] (defScope sMadeBySteps) := ⟨rfl, rfl, rfl, by decide +kernel, rfl, by decide +kernel, by decide +kernel⟩
theorem scMadeByStep : FnScope ["step", "text", "name", "character"] ["step", "text"] (defScope sMadeByStep) := ⟨rfl, rfl, rfl, by decide +kernel, rfl, by decide +kernel, by decide +kernel⟩
theorem scOnce : FnScope ["text", "single", "kept", "at"] ["text", "single"] (defScope sOnce) := ⟨rfl, rfl, rfl, by decide +kernel, rfl, by decide +kernel, by decide +kernel⟩
theorem scNostepInit : FnScope ["self", "index"] ["self", "index"] (defScope sNostepInit) := ⟨rfl, rfl, rfl, by decide +kernel, rfl, by decide +kernel, by decide +kernel⟩
theorem scNopartInit : FnScope ["self", "part"] ["self", "part"] (defScope sNopartInit) := ⟨rfl, rfl, rfl, by decide +kernel, rfl, by decide +kernel, by decide +kernel⟩
theorem scNolineInit : FnScope ["self", "line"] ["self", "line"] (defScope sNolineInit) := ⟨rfl, rfl, rfl, by decide +kernel, rfl, by decide +kernel, by decide +kernel⟩
theorem scDoorsInit : FnScope ["self", "put", "find", "strike", "wish"] ["self", "put", "find", "strike", "wish"] (defScope sDoorsInit) := ⟨rfl, rfl, rfl, by decide +kernel, rfl, by decide +kernel, by decide +kernel⟩
theorem scDoorsEq : FnScope ["self", "other", "doors"] ["self", "other"] (defScope sDoorsEq) := ⟨rfl, rfl, rfl, by decide +kernel, rfl, by decide +kernel, by decide +kernel⟩
theorem scDoorsPut : FnScope ["self"] ["self"] (defScope sDoorsPut) := ⟨rfl, rfl, rfl, by decide +kernel, rfl, by decide +kernel, by decide +kernel⟩
theorem scDoorsFind : FnScope ["self"] ["self"] (defScope sDoorsFind) := ⟨rfl, rfl, rfl, by decide +kernel, rfl, by decide +kernel, by decide +kernel⟩
theorem scDoorsStrike : FnScope ["self"] ["self"] (defScope sDoorsStrike) := ⟨rfl, rfl, rfl, by decide +kernel, rfl, by decide +kernel, by decide +kernel⟩
theorem scDoorsWish : FnScope ["self"] ["self"] (defScope sDoorsWish) := ⟨rfl, rfl, rfl, by decide +kernel, rfl, by decide +kernel, by decide +kernel⟩
theorem scDoorsFolded : FnScope ["self", "names"] ["self", "names"] (defScope sDoorsFolded) := ⟨rfl, rfl, rfl, by decide +kernel, rfl, by decide +kernel, by decide +kernel⟩
theorem scFoldingInit : FnScope ["self", "steps", "at", "step"] ["self", "steps"] (defScope sFoldingInit) := ⟨rfl, rfl, rfl, by decide +kernel, rfl, by decide +kernel, by decide +kernel⟩
theorem scFoldingCall : FnScope ["self", "text"] ["self", "text"] (defScope sFoldingCall) := ⟨rfl, rfl, rfl, by decide +kernel, rfl, by decide +kernel, by decide +kernel⟩
theorem scFoldingGetitem : FnScope ["self", "at"] ["self", "at"] (defScope sFoldingGetitem) := ⟨rfl, rfl, rfl, by decide +kernel, rfl, by decide +kernel, by decide +kernel⟩
theorem scFoldingIter : FnScope ["self"] ["self"] (defScope sFoldingIter) := ⟨rfl, rfl, rfl, by decide +kernel, rfl, by decide +kernel, by decide +kernel⟩
theorem scFoldingLen : FnScope ["self"] ["self"] (defScope sFoldingLen) := ⟨rfl, rfl, rfl, by decide +kernel, rfl, by decide +kernel, by decide +kernel⟩
theorem scFoldingEq : FnScope ["self", "other"] ["self", "other"] (defScope sFoldingEq) := ⟨rfl, rfl, rfl, by decide +kernel, rfl, by decide +kernel, by decide +kernel⟩
theorem scFoldingAdd : FnScope ["self", "other"] ["self", "other"] (defScope sFoldingAdd) := ⟨rfl, rfl, rfl, by decide +kernel, rfl, by decide +kernel, by decide +kernel⟩
theorem scFoldingContains : FnScope ["self", "x"] ["self", "x"] (defScope sFoldingContains) := ⟨rfl, rfl, rfl, by decide +kernel, rfl, by decide +kernel, by decide +kernel⟩
theorem scFoldingSteps : FnScope ["self"] ["self"] (defScope sFoldingSteps) := ⟨rfl, rfl, rfl, by decide +kernel, rfl, by decide +kernel, by decide +kernel⟩
theorem scFoldingWithout : FnScope ["self", "index"] ["self", "index"] (defScope sFoldingWithout) := ⟨rfl, rfl, rfl, by decide +kernel, rfl, by decide +kernel, by decide +kernel⟩
theorem scReadFolding : FnScope ["text", "steps", "at", "part", "step"] ["text"] (defScope sReadFolding) := ⟨rfl, rfl, rfl, by decide +kernel, rfl, by decide +kernel, by decide +kernel⟩
theorem scReadDoors : FnScope ["text", "foldings", "put", "find", "strike", "wish", "at", "line"] ["text"] (defScope sReadDoors) := ⟨rfl, rfl, rfl, by decide +kernel, rfl, by decide +kernel, by decide +kernel⟩
theorem scStepOf : FnScope ["part", "words", "values", "word", "value"] ["part"] (defScope sStepOf) := ⟨rfl, rfl, rfl, by decide +kernel, rfl, by decide +kernel, by decide +kernel⟩
theorem scNumberOf : FnScope ["word"] ["word"] (defScope sNumberOf) := ⟨rfl, rfl, rfl, by decide +kernel, rfl, by decide +kernel, by decide +kernel⟩
theorem scFoldingOf : FnScope ["at", "line"] ["at", "line"] (defScope sFoldingOf) := ⟨rfl, rfl, rfl, by decide +kernel, rfl, by decide +kernel, by decide +kernel⟩
theorem scLawWell : FnScope ["script", "k", "cell", "deep"] ["script", "k"] (defScope sLawWell) := ⟨rfl, rfl, rfl, by decide +kernel, rfl, by decide +kernel, by decide +kernel⟩
theorem scLawDraw : FnScope ["well", "many", "found", "turn", "mixed"] ["well", "many"] (defScope sLawDraw) := ⟨rfl, rfl, rfl, by decide +kernel, rfl, by decide +kernel, by decide +kernel⟩
theorem scLawChars : FnScope [] [] (defScope sLawChars) := ⟨rfl, rfl, rfl, by decide +kernel, rfl, by decide +kernel, by decide +kernel⟩
theorem scLawPool : FnScope ["well", "chars", "letter", "more", "k"] ["well"] (defScope sLawPool) := ⟨rfl, rfl, rfl, by decide +kernel, rfl, by decide +kernel, by decide +kernel⟩
theorem scLawCharacter : FnScope ["well", "pool"] ["well", "pool"] (defScope sLawCharacter) := ⟨rfl, rfl, rfl, by decide +kernel, rfl, by decide +kernel, by decide +kernel⟩
theorem scLawStep : FnScope ["well", "pool", "way", "found", "turn", "one"] ["well", "pool"] (defScope sLawStep) := ⟨rfl, rfl, rfl, by decide +kernel, rfl, by decide +kernel, by decide +kernel⟩
theorem scLawSteps : FnScope ["well", "pool", "turn"] ["well", "pool"] (defScope sLawSteps) := ⟨rfl, rfl, rfl, by decide +kernel, rfl, by decide +kernel, by decide +kernel⟩
theorem scLawDoors : FnScope ["well", "pool", "base", "found", "turn", "way", "spot", "steps"] ["well", "pool"] (defScope sLawDoors) := ⟨rfl, rfl, rfl, by decide +kernel, rfl, by decide +kernel, by decide +kernel⟩
theorem scLawPart : FnScope ["step", "entry"] ["step"] (defScope sLawPart) := ⟨rfl, rfl, rfl, by decide +kernel, rfl, by decide +kernel, by decide +kernel⟩
theorem scLawFoldingText : FnScope ["steps", "step"] ["steps"] (defScope sLawFoldingText) := ⟨rfl, rfl, rfl, by decide +kernel, rfl, by decide +kernel, by decide +kernel⟩
theorem scLawDoorsText : FnScope ["four", "heads", "k"] ["four"] (defScope sLawDoorsText) := ⟨rfl, rfl, rfl, by decide +kernel, rfl, by decide +kernel, by decide +kernel⟩
theorem scLawSame : FnScope ["actual", "expected", "k"] ["actual", "expected"] (defScope sLawSame) := ⟨rfl, rfl, rfl, by decide +kernel, rfl, by decide +kernel, by decide +kernel⟩
theorem scLawWhole : FnScope ["actual", "expected"] ["actual", "expected"] (defScope sLawWhole) := ⟨rfl, rfl, rfl, by decide +kernel, rfl, by decide +kernel, by decide +kernel⟩
theorem scLawGuess : FnScope ["part", "words", "rest", "word"] ["part"] (defScope sLawGuess) := ⟨rfl, rfl, rfl, by decide +kernel, rfl, by decide +kernel, by decide +kernel⟩
theorem scLawIsStep : FnScope ["step", "word", "rest", "one", "sizes"] ["step"] (defScope sLawIsStep) := ⟨rfl, rfl, rfl, by decide +kernel, rfl, by decide +kernel, by decide +kernel⟩
theorem scLawRead : FnScope ["page", "parts", "steps", "k", "step"] ["page"] (defScope sLawRead) := ⟨rfl, rfl, rfl, by decide +kernel, rfl, by decide +kernel, by decide +kernel⟩
theorem scLawEdit : FnScope ["well", "page", "signs", "way", "at", "sign"] ["well", "page"] (defScope sLawEdit) := ⟨rfl, rfl, rfl, by decide +kernel, rfl, by decide +kernel, by decide +kernel⟩
theorem scLawNearPart : FnScope ["well", "one", "near"] ["well", "one"] (defScope sLawNearPart) := ⟨rfl, rfl, rfl, by decide +kernel, rfl, by decide +kernel, by decide +kernel⟩
theorem scLawSpoilt : FnScope ["well", "pool", "page", "way", "parts", "spot", "other", "turn"] ["well", "pool", "page"] (defScope sLawSpoilt) := ⟨rfl, rfl, rfl, by decide +kernel, rfl, by decide +kernel, by decide +kernel⟩
theorem scLawDue : FnScope ["page", "heads", "four", "lines", "k", "found"] ["page"] (defScope sLawDue) := ⟨rfl, rfl, rfl, by decide +kernel, rfl, by decide +kernel, by decide +kernel⟩
theorem scLawSpoiltLines : FnScope ["well", "pool", "page", "way", "lines", "spot", "other", "head", "space", "rest", "kept", "heads"] ["well", "pool", "page"] (defScope sLawSpoiltLines) := ⟨rfl, rfl, rfl, by decide +kernel, rfl, by decide +kernel, by decide +kernel⟩
theorem scLawTried : FnScope ["page", "found", "result", "e"] ["page"] (defScope sLawTried) := ⟨rfl, rfl, rfl, by decide +kernel, rfl, by decide +kernel, by decide +kernel⟩
theorem scLawClasses : FnScope ["page", "found", "e"] ["page"] (defScope sLawClasses) := ⟨rfl, rfl, rfl, by decide +kernel, rfl, by decide +kernel, by decide +kernel⟩
theorem scLawRight : FnScope ["page", "due", "found", "result", "told", "one"] ["page", "due"] (defScope sLawRight) := ⟨rfl, rfl, rfl, by decide +kernel, rfl, by decide +kernel, by decide +kernel⟩
theorem scLaw : FnScope ["script", "k", "well", "way", "spoils", "pool", "page", "thing", "turn"] ["script"] (defScope sLaw) := ⟨rfl, rfl, rfl, by decide +kernel, rfl, by decide +kernel, by decide +kernel⟩
end Pd

set_option maxHeartbeats 4000000
namespace Pd
open PySem PySem.Spec PyProof.Rows L2 SX
/-! ### bundles -/
/-- a def that may be called by its name, all its arguments by position -/
structure Cl (P : Program) (w : World) (K : PySem.W.Frag) (mg : Str → Option Value) (base : Heap) (k : Nat) (x : Str) (sp : Sp) : Prop where
  ex : ∃ (f : Addr) (fd : FuncData) (ps : List Str), FnOk P w K mg base CX0 k f fd ps sp ∧ mg x = some (.ref f) ∧ PySem.W.keepIn K (.ref f) = true ∧ Binds K fd ps []
/-- .. that gives a new text -/
structure ClT (P : Program) (w : World) (K : PySem.W.Frag) (mg : Str → Option Value) (base : Heap) (k : Nat) (x : Str) (sp : Sp) : Prop where
  ex : ∃ (f : Addr), FnT P w K mg base CX0 k f sp ∧ mg x = some (.ref f) ∧ PySem.W.keepIn K (.ref f) = true
/-- a def as it stands behind the top -/
structure Df (K : PySem.W.Frag) (mg : Str → Option Value) (x : Str) (st : Stmt) (f : Addr) (fd : FuncData) : Prop where
  fn : Fun K x x st f fd
  mgf : mg x = some (.ref f)
  kp : PySem.W.keepIn K (.ref f) = true
def E0 : XK := fun _ _ _ => False
section
variable {X : Cx} {k j : Nat} {x : Str} {sp : Sp} {p pos : Pos} {e : Expr} {es : List Expr} {t : TA}
theorem pe_cl (c : Cl X.prog X.w X.K X.mg X.base k x sp) (hr : Room j X.A) (hk : k ≤ j) (hg : Gl X x) (ha : PA X (e :: es) t)
    (hdb : (x == ("__debug__" : Str)) = false := by decide) (he : starEach (e :: es) X.env = (false, eval e X.env) :: starEach es X.env := by rfl) (hpl : (backTo pos (starEach es X.env)).any (·.1) = false := by rfl) :
    PE X (.Call (.Name x p) (e :: es) [] pos) (tCall sp [] E0 t) := by
  obtain ⟨f, fd, ps, F, hm, kp, b⟩ := c.ex
  exact pe_call F (hr.mono hk) hg hm kp b .nil pass0 ha hdb he hpl
theorem pef_cl (c : ClT X.prog X.w X.K X.mg X.base k x sp) (hr : Room j X.A) (hk : k ≤ j) (hg : Gl X x) (ha : PA X (e :: es) t)
    (hdb : (x == ("__debug__" : Str)) = false := by decide) (he : starEach (e :: es) X.env = (false, eval e X.env) :: starEach es X.env := by rfl) (hpl : (backTo pos (starEach es X.env)).any (·.1) = false := by rfl) :
    PEF X (.Call (.Name x p) (e :: es) [] pos) (fun σ H Q => t σ H fun vs H1 => sp vs H1 Q E0) := by
  obtain ⟨f, F, hm, kp⟩ := c.ex
  exact pef_call F (hr.mono hk) hg hm kp pass0 ha hdb he hpl
end
/-! ### what the top has bound -/
structure Nms (mg : Str → Option Value) : Prop where
  len : mg "len" = none
  int : mg "int" = none
  abs : mg "abs" = none
  max : mg "max" = none
  min : mg "min" = none
  range : mg "range" = none
  isi : mg "isinstance" = none
  str : mg "str" = none
  tuple : mg "tuple" = none
  bool : mg "bool" = none
  all : mg "all" = none
  set : mg "set" = none
  enum : mg "enumerate" = none
theorem powW_ok2 {i j : Int} {a : Nat} (h : i.natAbs < 2 ^ a) (h0 : 0 < a) (hj : 0 ≤ j) (hj2 : j ≤ 1000) (ha : a ≤ 100000) : CPowW i j := by
  refine ⟨hj, ?_⟩
  have e := bits_lt h h0
  have e2 : (Builtin.Int.intBits i : Int) ≤ 100000 := by omega
  have e3 : (0:Int) ≤ (Builtin.Int.intBits i : Int) := by omega
  have : (Builtin.Int.intBits i : Int) * j ≤ 100000 * 1000 := Int.mul_le_mul e2 hj2 hj (by omega)
  omega
theorem p36 : (10 : Int) ^ (36 : Int).toNat + 67 = 1000000000000000000000000000000000067 := by decide +kernel
theorem p18 : (10 : Int) ^ (18 : Int).toNat = 1000000000000000000 := by decide +kernel
theorem p42 : (10 : Int) ^ (42 : Int).toNat + 63 = 1000000000000000000000000000000000000000063 := by decide +kernel
theorem p40 : (10 : Int) ^ (40 : Int).toNat + 121 = 10000000000000000000000000000000000000121 := by decide +kernel
theorem p6 : (10 : Int) ^ (6 : Int).toNat = 1000000 := by decide +kernel
/-! ### heaps -/
/-- only the object at j may have changed -/
def Kp (j : Addr) (H H' : Hp) : Prop := ∀ b o, b ≠ j → H b = some o → H' b = some o
theorem Kp.refl {j : Addr} {H : Hp} : Kp j H H := fun _ _ _ h => h
theorem Kp.trans {j : Addr} {H H' H'' : Hp} (a : Kp j H H') (b : Kp j H' H'') : Kp j H H'' := fun c o n h => b c o n (a c o n h)
theorem Kp.upd {j : Addr} {H : Hp} {o : HO} : Kp j H (upd H j o) := fun b u n h => by rw [upd_ne n]; exact h
theorem Kp.new {j l : Addr} {H H' : Hp} {o : HO} (a : Kp j H H') (hl : H' l = none) : Kp j H (L2.upd H' l o) := fun b u n h => by
  rw [upd_ne (ne_of_none (a b u n h) hl)]
  exact a b u n h
/-- the jar: its three numbers; at most n draws so far -/
def JarAt (H : Hp) (j : Addr) (n : Nat) : Prop := ∃ a b c : Int, H j = some (.lst [.int a, .int b, .int c]) ∧ 0 ≤ a ∧ 0 ≤ b ∧ b < 10 ^ 40 ∧ 0 ≤ c ∧ c ≤ n
theorem JarAt.le {H : Hp} {j : Addr} {n m : Nat} (h : JarAt H j n) (l : n ≤ m) : JarAt H j m := by
  obtain ⟨a, b, c, h1, h2, h3, h4, h5, h6⟩ := h
  exact ⟨a, b, c, h1, h2, h3, h4, h5, by omega⟩
theorem JarAt.new {H : Hp} {j l : Addr} {n : Nat} {o : HO} (h : JarAt H j n) (hl : H l = none) : JarAt (L2.upd H l o) j n := by
  obtain ⟨a, b, c, h1, r⟩ := h
  exact ⟨a, b, c, by rw [upd_ne (ne_of_none h1 hl)]; exact h1, r⟩
/-! ### promises -/
def spJar (K : PySem.W.Frag) : Sp := fun vs H Q _ => ∃ (a : Addr) (ns : List Int) (k : Int), vs = [.ref a, .int k] ∧ SqL K H a (ns.map V.int) ∧ ns.length ≤ 63 ∧ 0 ≤ k ∧ k < 100 ∧
  ∀ j H', H j = none → JarAt H' j 0 → (∀ b o, H b = some o → H' b = some o) → Q (.ref j) H'
def spDraw : Sp := fun vs H Q _ => ∃ (j : Addr) (m : Int) (n : Nat), vs = [.ref j, .int m] ∧ JarAt H j n ∧ n < 1000000 ∧ 1 ≤ m ∧ m ≤ 100000000000000000000000000000000000000000000000000 ∧
  ∀ r H', 0 ≤ r → r < m → JarAt H' j (n + 1) → Kp j H H' → Q (.int r) H'
def spSign : Sp := fun vs H Q _ => ∃ (j : Addr) (n : Nat), vs = [.ref j] ∧ JarAt H j n ∧ n < 1000000 ∧
  ∀ c H', c ∈ CH → JarAt H' j (n + 1) → Kp j H H' → Q (.str ⟨#[c]⟩) H'
section
variable {P : Program} {w : World} {K : PySem.W.Frag} {mg : Str → Option Value} {base : Heap}
def jarT : TE := (tLst (tCons (tCB (fun xs H Q => ∃ i j, xs = [V.int i, V.int j] ∧ Q (V.int (if j > i then j else i)) H)
            (tCons (tC (V.int 0)) (tCons (tOp (rI0 fun i j => V.int (i - j)) (tVar 2) (tOp (rI CPowW fun i j => V.int (i ^ j.toNat)) (tC (V.int 10)) (tC (V.int 18)))) tNil)))
          (tCons (tOp (rI0 fun i j => V.int (i + j)) (tOp (rI (fun _ j => 0 < j) fun i j => V.int (i % j))
                (tCB (fun xs H Q => (∃ i, xs = [V.int i] ∧ Q (V.int i) H) ∨ ∃ k, xs = [V.bl k] ∧ Q (V.int (if k = true then 1 else 0)) H) (tCons (tVar 2) tNil))
                (tOp (rI0 fun i j => V.int (i + j)) (tOp (rI CPowW fun i j => V.int (i ^ j.toNat)) (tC (V.int 10)) (tC (V.int 36))) (tC (V.int 67))))
              (tOp (rI CMul fun i j => V.int (i * j)) (tC (V.int 1299709)) (tVar 1)))
            (tCons (tC (V.int 0)) tNil))))
theorem jar_tail {a : Addr} {k z : Int} {H : Hp} {Q : VK} (hk0 : 0 ≤ k) (hk1 : k < 100) (hz0 : 0 ≤ z) (q : ∀ j H', H j = none → JarAt H' j 0 → (∀ b o, H b = some o → H' b = some o) → Q (.ref j) H') :
    jarT [some (.ref a), some (.int k), some (.int z)] H Q := by
  have pw : ∀ e : Int, 0 ≤ e → e ≤ 1000 → CPowW 10 e := fun e h0 h1 => powW_ok2 (a := 4) (by decide) (by decide) h0 h1 (by decide)
  refine ⟨_, rfl, _, _, rfl, rfl, pw 18 (by decide) (by decide), _, _, rfl, rfl, _, _, rfl, _, rfl, .inl ⟨_, rfl, _, _, rfl, rfl, pw 36 (by decide) (by decide), _, _, rfl, rfl, _, _, rfl, rfl, (show (0:Int) < 10 ^ (36 : Int).toNat + 67 by rw [p36]; decide),
    _, rfl, _, _, rfl, rfl, .inl ⟨by decide, by decide⟩, _, _, rfl, rfl, by show 3 ≤ sizeLine; decide, fun l hl => ?_⟩⟩
  refine q l _ hl ⟨_, _, _, upd_same, ?_, ?_, ?_, by decide, by decide⟩ fun b o h => by rw [upd_ne (ne_of_none h hl)]; exact h
  · split <;> omega
  · rw [p36]; omega
  · rw [p36]; omega
end
end Pd

set_option maxHeartbeats 4000000
namespace Pd
open PySem PySem.Spec PyProof.Rows L2 SX
def sg (c : Nat) : Str := ⟨#[c]⟩
theorem sg_S (c : Nat) : sg c = S [c] := rfl
/-- eight signs, in a list whose tokens are known -/
structure SgnsAt (H : Hp) (a : Addr) (gs : List Nat) : Prop where
  at_ : TxtsAt H a (gs.map sg)
  len : gs.length = 8
  ok : ∀ c ∈ gs, c ∈ CH
theorem SgnsAt.kp {H H' : Hp} {j a : Addr} {gs : List Nat} (h : SgnsAt H a gs) (k : Kp j H H') (hj : ∃ xs, H j = some (.lst xs)) : SgnsAt H' a gs := by
  refine ⟨?_, h.len, h.ok⟩
  obtain ⟨its, n, m, q, e, r⟩ := h.at_
  obtain ⟨xs, hj⟩ := hj
  have ne : a ≠ j := by rintro rfl; rw [e] at hj; cases hj
  exact ⟨its, n, m, q, k a _ ne e, r⟩
theorem SgnsAt.new {H : Hp} {l a : Addr} {gs : List Nat} {o : HO} (h : SgnsAt H a gs) (hl : H l = none) : SgnsAt (L2.upd H l o) a gs := by
  refine ⟨?_, h.len, h.ok⟩
  obtain ⟨its, n, m, q, e, r⟩ := h.at_
  exact ⟨its, n, m, q, by rw [upd_ne (ne_of_none e hl)]; exact e, r⟩
theorem SgnsAt.ne {H : Hp} {j a : Addr} {gs : List Nat} {xs : List V} (h : SgnsAt H a gs) (hj : H j = some (.lst xs)) : a ≠ j := by
  obtain ⟨its, n, m, q, e, r⟩ := h.at_
  rintro rfl; rw [e] at hj; cases hj
theorem JarAt.lst {H : Hp} {j : Addr} {n : Nat} (h : JarAt H j n) : ∃ xs, H j = some (.lst xs) := by
  obtain ⟨a, b, c, h1, _⟩ := h
  exact ⟨_, h1⟩
theorem JarAt.kp {H H' : Hp} {j : Addr} {n : Nat} (h : JarAt H j n) (e : H' j = H j) : JarAt H' j n := by
  obtain ⟨a, b, c, h1, r⟩ := h
  exact ⟨a, b, c, e.trans h1, r⟩
theorem S_at {l : List Nat} {i : Nat} (h : i < l.length) : (S l).cps[i]? = some l[i] := by
  show l.toArray[i]? = _
  simp [h]
theorem abc_S : ("abcdefghijklmnopqrstuvwxyz" : Str) = S (CH.take 26) := by decide +kernel
theorem digits_S : ("0123456789" : Str) = S ((CH.drop 52).take 10) := by decide +kernel
theorem small_CH : ∀ c ∈ CH.take 26, c ∈ CH ∧ c < 128 ∧ up1 c ∈ CH := by decide
theorem dig_CH : ∀ c ∈ (CH.drop 52).take 10, c ∈ CH := by decide
def spSigns : Sp := fun vs H Q _ => ∃ (j : Addr) (n : Nat), vs = [.ref j] ∧ JarAt H j n ∧ n + 6 < 1000000 ∧
  ∀ p gs H', H p = none → SgnsAt H' p gs → JarAt H' j (n + 6) → Kp j H H' → Q (.ref p) H'
theorem upper_sg {c : Nat} (h : c < 128) : Txt.upper (sg c) = sg (up1 c) := upper_S (a := [c]) (by simpa using h)
section
variable {P : Program} {w : World} {K : PySem.W.Frag} {mg : Str → Option Value} {base : Heap}
end
end Pd

set_option maxHeartbeats 4000000
namespace Pd
open PySem PySem.Spec PyProof.Rows L2 SX
/-! ### repeated texts -/
theorem fold_rep (x : List Nat) : ∀ (k : Nat) (acc : Array Nat), ∃ m : List Nat, ((List.replicate k x.toArray).foldl (· ++ ·) acc) = (acc.toList ++ m).toArray ∧ m.length = k * x.length ∧ ∀ c ∈ m, c ∈ x
  | 0, acc => ⟨[], by simp, by simp, fun _ h => nomatch h⟩
  | k + 1, acc => by
    obtain ⟨m, e, l, h⟩ := fold_rep x k (acc ++ x.toArray)
    refine ⟨x ++ m, ?_, by rw [List.length_append, l, Nat.add_one_mul]; omega, fun c hc => ?_⟩
    · rw [List.replicate_succ, List.foldl_cons, e]
      simp
    · rcases List.mem_append.mp hc with hc | hc
      · exact hc
      · exact h c hc
theorem mul_S (l : List Nat) {n : Int} (h0 : 0 ≤ n) : ∃ m : List Nat, Txt.mul (S l) n = S m ∧ m.length ≤ n.toNat * l.length ∧ ∀ c ∈ m, c ∈ l := by
  unfold Txt.mul
  split
  · exact ⟨[], rfl, by simp, fun _ h => nomatch h⟩
  · split
    · refine ⟨l, rfl, ?_, fun _ h => h⟩
      have : 1 ≤ n.toNat := by omega
      calc l.length = 1 * l.length := (Nat.one_mul _).symm
        _ ≤ n.toNat * l.length := Nat.mul_le_mul_right _ this
    · obtain ⟨m, e, hl, hm⟩ := fold_rep l n.toNat #[]
      refine ⟨m, ?_, Nat.le_of_eq hl, hm⟩
      show (⟨(List.replicate n.toNat l.toArray).foldl (· ++ ·) #[]⟩ : Str) = _
      rw [e]
      simp [S]
theorem mulOk_S {l : List Nat} {n : Int} (h0 : 0 ≤ n) (h1 : n ≤ 60) (hl : l.length ≤ 1000) : PySem.MulOk (S l) n := by
  refine ⟨?_, fun h2 _ => ?_, fun h2 _ => ?_⟩
  · rw [decide_eq_false (by omega), decide_eq_false (by omega)]; rfl
  · rw [S_len]
    intro h3
    have h5 : (l.length : Int) * n ≤ 1000 * 60 := Int.mul_le_mul (by omega) h1 h0 (by omega)
    have h6 : (l.length : Int) ≤ (2 ^ 63 - 1 : Int) / n := Int.le_ediv_of_mul_le (by omega) (by omega)
    omega
  · rw [S_len]
    refine PyProof.Rows.short24 ?_
    have : l.length * n.toNat ≤ 1000 * 60 := Nat.mul_le_mul hl (by omega)
    omega

def spText : Sp := fun vs H Q _ => ∃ (j a : Addr) (n : Nat) (gs : List Nat), vs = [.ref j, .ref a] ∧ JarAt H j n ∧ SgnsAt H a gs ∧ n + 100 < 1000000 ∧
  ∀ l H', Good l → JarAt H' j (n + 100) → Kp j H H' → Q (.str (S l)) H'
theorem SgnsAt.item {H : Hp} {a : Addr} {gs : List Nat} (h : SgnsAt H a gs) {r : Int} (h0 : 0 ≤ r) (h1 : r < 8) : ∃ c ∈ CH, atI ((gs.map sg).map V.str) r = some (.str (sg c)) := by
  have e : r.toNat < gs.length := by rw [h.len]; omega
  refine ⟨gs[r.toNat], h.ok _ (List.getElem_mem e), ?_⟩
  have z := atI_nat (xs := (gs.map sg).map V.str) (j := r.toNat) (v := .str (sg gs[r.toNat])) (by simp [e])
  have e2 : ((r.toNat : Nat) : Int) = r := by omega
  rw [e2] at z
  exact z
theorem SgnsAt.len' {H : Hp} {a : Addr} {gs : List Nat} (h : SgnsAt H a gs) : (((gs.map sg).map V.str).length : Int) = 8 := by
  rw [List.length_map, List.length_map, h.len]; rfl
theorem four_item {r : Int} (h0 : 0 ≤ r) (h1 : r < 4) : ∃ m : Int, atI [V.int 1, V.int 1, V.int 2, V.int 5] r = some (.int m) ∧ 0 ≤ m ∧ m ≤ 5 := by
  obtain rfl | rfl | rfl | rfl : r = 0 ∨ r = 1 ∨ r = 2 ∨ r = 3 := by omega
  · exact ⟨1, rfl, by decide, by decide⟩
  · exact ⟨1, rfl, by decide, by decide⟩
  · exact ⟨2, rfl, by decide, by decide⟩
  · exact ⟨5, rfl, by decide, by decide⟩
section
variable {P : Program} {w : World} {K : PySem.W.Frag} {mg : Str → Option Value} {base : Heap}
end
end Pd

set_option maxHeartbeats 4000000
namespace Pd
open PySem PySem.Spec PyProof.Rows L2 SX
def spDropped : Sp := fun vs H Q _ => ∃ (j a : Addr) (n : Nat) (gs : List Nat), vs = [.ref j, .ref a] ∧ JarAt H j n ∧ SgnsAt H a gs ∧ n + 40 < 1000000 ∧
  ∀ cs H', Stp.ok (.drop cs) → JarAt H' j (n + 40) → Kp j H H' → Q (.str (S cs)) H'
theorem three_item {r : Int} (h0 : 0 ≤ r) (h1 : r < 3) : ∃ m : Int, atI [V.int 0, V.int 1, V.int 9] r = some (.int m) ∧ 0 ≤ m ∧ m ≤ 9 := by
  obtain rfl | rfl | rfl : r = 0 ∨ r = 1 ∨ r = 2 := by omega
  · exact ⟨0, rfl, by decide, by decide⟩
  · exact ⟨1, rfl, by decide, by decide⟩
  · exact ⟨9, rfl, by decide, by decide⟩
/-- a step in the heap -/
def stpVals : Stp → List V
  | .low => [.str "lower"]
  | .swap a b => [.str "swap", .str (sg a), .str (sg b)]
  | .drop cs => [.str "drop", .str (S cs)]
  | .lead a => [.str "lead", .str (sg a)]
  | .once a => [.str "once", .str (sg a)]
  | .cut n => [.str "cut", .int (n : Nat)]
/-- a step of once: a tuple, or one whose object is known -/
def OnceAt (H : Hp) (p : Addr) (a : Str) : Prop := H p = Option.some (.tup [.str "once", .str a]) ∨ ∃ o, H p = Option.some (.frz o (.tup [.str "once", .str a]))
def StpAt (H : Hp) (p : Addr) : Stp → Prop
  | .swap a b => SwapAt H p (sg a) (sg b)
  | .once a => OnceAt H p (sg a)
  | st => H p = some (.tup (stpVals st))
theorem StpAt.seq {K : PySem.W.Frag} {H : Hp} {p : Addr} {st : Stp} (h : StpAt H p st) : SqT K H p (stpVals st) := by
  cases st with
  | swap a b => exact SwapAt.seq h
  | low => exact SqT.of h
  | drop _ => exact SqT.of h
  | lead _ => exact SqT.of h
  | once _ =>
    rcases h with h | ⟨o, h⟩
    · exact SqT.of h
    · exact .inl (.inr ⟨o, h⟩)
  | cut _ => exact SqT.of h
theorem StpAt.some {H : Hp} {p : Addr} {st : Stp} (h : StpAt H p st) : ∃ o, H p = some o ∧ ∀ xs, o ≠ .lst xs := by
  cases st with
  | swap a b =>
    obtain ⟨n, t0, t, u, e, _⟩ := h
    exact ⟨_, e, fun _ h => nomatch h⟩
  | low => exact ⟨_, h, fun _ h => nomatch h⟩
  | drop _ => exact ⟨_, h, fun _ h => nomatch h⟩
  | lead _ => exact ⟨_, h, fun _ h => nomatch h⟩
  | once _ =>
    rcases h with h | ⟨o, h⟩
    · exact ⟨_, h, fun _ h => nomatch h⟩
    · exact ⟨_, h, fun _ h => nomatch h⟩
  | cut _ => exact ⟨_, h, fun _ h => nomatch h⟩
/-- what stands at p is the same -/
theorem StpAt.same {H H' : Hp} {p : Addr} {st : Stp} (h : StpAt H p st) (e : ∀ o, H p = Option.some o → H' p = Option.some o) : StpAt H' p st := by
  cases st with
  | swap a b => exact SwapAt.same h fun o u x => e _ x
  | low => exact e _ h
  | drop _ => exact e _ h
  | lead _ => exact e _ h
  | once _ =>
    rcases h with h | ⟨o, h⟩
    · exact .inl (e _ h)
    · exact .inr ⟨o, e _ h⟩
  | cut _ => exact e _ h
theorem StpAt.kp {H H' : Hp} {j p : Addr} {st : Stp} {xs : List V} (h : StpAt H p st) (k : Kp j H H') (hj : H j = Option.some (.lst xs)) : StpAt H' p st := by
  refine h.same fun o x => k p o ?_ x
  rintro rfl
  obtain ⟨o', x', ne⟩ := h.some
  rw [hj] at x'; cases x'
  exact ne _ rfl
theorem StpAt.new {H : Hp} {l p : Addr} {st : Stp} {o : HO} (h : StpAt H p st) (hl : H l = none) : StpAt (L2.upd H l o) p st :=
  h.same fun o x => by rw [upd_ne (ne_of_none x hl)]; exact x
def spStep : Sp := fun vs H Q _ => ∃ (j a : Addr) (n : Nat) (gs : List Nat), vs = [.ref j, .ref a] ∧ JarAt H j n ∧ SgnsAt H a gs ∧ n + 50 < 1000000 ∧
  ∀ p st H', H p = none → st.ok → StpAt H' p st → JarAt H' j (n + 50) → Kp j H H' → Q (.ref p) H'
theorem Kp.none {j p : Addr} {H H' : Hp} (k : Kp j H H') (hp : H' p = none) (hj : ∃ xs, H j = some (.lst xs)) (hj' : ∃ xs, H' j = some (.lst xs)) : H p = none := by
  cases h : H p with
  | none => rfl
  | some o =>
    by_cases e : p = j
    · subst e
      obtain ⟨xs, h'⟩ := hj'
      rw [h'] at hp; cases hp
    · rw [k p o e h] at hp; cases hp
section
variable {P : Program} {w : World} {K : PySem.W.Frag} {mg : Str → Option Value} {base : Heap}
end
end Pd

set_option maxHeartbeats 4000000
namespace Pd
open PySem PySem.Spec PyProof.Rows L2 SX
section
variable {P : Program} {w : World} {K : PySem.W.Frag} {mg : Str → Option Value} {base : Heap}
end
end Pd

set_option maxHeartbeats 4000000
namespace Pd
open PySem PySem.Spec PyProof.Rows L2 SX
/-! ### comprehensions over a text that give signs -/
def Ext (H H' : Hp) : Prop := ∀ b o, H b = some o → H' b = some o
theorem Ext.refl {H : Hp} : Ext H H := fun _ _ h => h
theorem Ext.trans {H H' H'' : Hp} (a : Ext H H') (b : Ext H' H'') : Ext H H'' := fun c o h => b c o (a c o h)
theorem Ext.new {H H' : Hp} {D : Addr} {o : HO} (a : Ext H H') (h : H D = none) : Ext H (upd H' D o) := fun b u e => by
  rw [upd_ne (ne_of_none e h)]; exact a b u e
theorem Ext.kp {H H' : Hp} {j : Addr} (a : Ext H H') : Kp j H H' := fun b o _ h => a b o h
theorem StpAt.ext {H H' : Hp} {p : Addr} {st : Stp} (h : StpAt H p st) (k : Ext H H') : StpAt H' p st := h.same fun o x => k p o x
theorem lc_text {l : List Nat} {g : TG} {tt : TT} {te : TE} {vs : List Nat} {σ : L2.St} {H1 : Hp} {D : Addr} {Qd : Hp → Prop} (f : Nat → Option Nat) (hl : l.length ≤ 1000) (hD : H1 D = none)
    (hs : ∀ c H acc (Nx : Hp → Prop), c ∈ l → Ext H1 H → H D = some (.lst acc) → acc.length < sizeLine →
      (∀ H', H' D = some (.lst (acc ++ ((f c).toList.map sg).map V.str)) → Ext H1 H' → Nx H') →
      g (.str (sg c)) (wipe σ vs) H fun σ2 H2 => wipe σ2 vs = wipe σ vs ∧ tt σ2 H2 fun b H3 =>
        if b = true then te σ2 H3 fun y H4 => ∃ acc', H4 D = some (.lst acc') ∧ acc'.length < sizeLine ∧ Nx (upd H4 D (.lst (acc' ++ [y]))) else Nx H3)
    (hd : ∀ H, H D = some (.lst (((l.filterMap f).map sg).map V.str)) → Ext H1 H → Qd H) :
    ∃ W : Nat → Nat → Hp → Prop, (∃ m, W 0 m (upd H1 D (.lst []))) ∧ ∀ i m H, W i m H →
      ((Its (S l)).stop i H ∧ Qd H) ∨ ((Its (S l)).go i H ∧ ∃ Nx : Hp → Prop, (∀ H', Nx H' → ∃ m', m' < m ∧ W (i + 1) m' H') ∧ ∀ x H', (Its (S l)).yld i H x H' → g x (wipe σ vs) H' fun σ2 H2 => wipe σ2 vs = wipe σ vs ∧ tt σ2 H2 fun b H3 =>
        if b = true then te σ2 H3 fun y H4 => ∃ acc, H4 D = some (.lst acc) ∧ acc.length < sizeLine ∧ Nx (upd H4 D (.lst (acc ++ [y]))) else Nx H3) := by
  have hsz : (S l).cps.size = l.length := by simp [S]
  have key := lc_it (g := g) (tt := tt) (te := te) (vs := vs) (σ := σ) (H1 := H1) (D := D) (Qd := Qd) (walk_str (z := S l))
    (fun i H => H D = some (.lst ((((l.take i).filterMap f).map sg).map V.str)) ∧ Ext H1 H) ⟨by rw [List.take_zero]; exact upd_same, Ext.refl.new hD⟩ (fun _ _ _ _ => trivial) ?_ ?_
  · exact key
  · rintro i x H H' hi ⟨h1, h2⟩ ⟨rfl, c, hc, rfl⟩
    have hc' : l[i]? = some c := by simpa [S] using hc
    have hil : i < l.length := (List.getElem?_eq_some_iff.mp hc').1
    have hb : ∀ k, (((l.take k).filterMap f).map sg).length ≤ 1000 := fun k => by
      rw [List.length_map]
      exact Nat.le_trans (List.length_filterMap_le _ _) (Nat.le_trans (List.length_take_le' _ _) hl)
    refine hs c H' _ _ (List.mem_of_getElem? hc') h2 h1 (by rw [List.length_map, sizeLine_eq]; have := hb i; omega) fun H'' e1 e2 => ⟨?_, e2⟩
    rw [e1, List.take_succ, hc', List.filterMap_append, List.map_append, List.map_append]
    congr 4
  · rintro H ⟨h1, h2⟩
    rw [hsz, List.take_length] at h1
    exact hd H h1 h2
theorem joinL_sg : ∀ m : List Nat, TL.joinL [] (m.map fun c => [c]) = m
  | [] => rfl
  | [c] => rfl
  | c :: d :: r => by
    have ih := joinL_sg (d :: r)
    show [c] ++ ([] ++ TL.joinL [] ((d :: r).map fun c => [c])) = c :: d :: r
    rw [ih]
    rfl
theorem join_sg (m : List Nat) : Txt.join "" (m.map sg) = S m := by
  have e : m.map sg = (m.map fun c => [c]).map S := by rw [List.map_map]; rfl
  have e2 : ("" : Str) = S [] := rfl
  rw [e, e2, join_S, joinL_sg]
theorem sum_sg (m : List Nat) : ((m.map sg).map (·.length)).sum = m.length := by
  induction m with
  | nil => rfl
  | cons c m ih =>
    rw [List.map_cons, List.map_cons, List.sum_cons, ih, List.length_cons]
    show 1 + m.length = m.length + 1
    omega
/-- what join asks of such a list -/
theorem join_ask {K : PySem.W.Frag} {H : Hp} {p : Addr} {m : List Nat} {Q : VK} (h : H p = some (.lst ((m.map sg).map V.str))) (hl : m.length ≤ 1000) (q : Q (.str (S m)) H) :
    ∃ a p', ∃ ys : List Str, V.str "" = .str a ∧ [V.ref p] = [.ref p'] ∧ (SqL K H p' (ys.map V.str) ∨ SqT K H p' (ys.map V.str)) ∧
      (ys.map (·.length)).sum + ys.length * a.length ≤ 16777216 ∧ Q (.str (Txt.join a ys)) H := by
  refine ⟨_, p, m.map sg, rfl, rfl, .inl (SqL.of h), ?_, by rw [join_sg]; exact q⟩
  rw [sum_sg, List.length_map]
  show m.length + m.length * 0 ≤ 16777216
  omega
/-! ### the letters' places -/
theorem ABC_S : ("ABCDEFGHIJKLMNOPQRSTUVWXYZ" : Str) = S ((CH.drop 26).take 26) := by decide +kernel
theorem find_CH : ∀ c ∈ CH, Txt.find "ABCDEFGHIJKLMNOPQRSTUVWXYZ" (sg c) = if 65 ≤ c ∧ c ≤ 90 then ((c : Int) - 65) else -1 := by decide +kernel
theorem abc_at : ∀ c ∈ CH, 65 ≤ c ∧ c ≤ 90 → (CH.take 26)[c - 65]? = some (c + 32) := by decide +kernel
def spSmall : Sp := fun vs H Q _ => ∃ c, vs = [.str (sg c)] ∧ c ∈ CH ∧ Q (.str (sg (lowC c))) H
section
variable {P : Program} {w : World} {K : PySem.W.Frag} {mg : Str → Option Value} {base : Heap}
end
end Pd

set_option maxHeartbeats 4000000
namespace Pd
open PySem PySem.Spec PyProof.Rows L2 SX
def wordOf : Stp → Str
  | .low => "lower" | .swap _ _ => "swap" | .drop _ => "drop" | .lead _ => "lead" | .once _ => "once" | .cut _ => "cut"
theorem word_at (st : Stp) : atI (stpVals st) 0 = some (.str (wordOf st)) := by cases st <;> rfl
def spMade : Sp := fun vs H Q _ => ∃ (p : Addr) (st : Stp) (l : List Nat), vs = [.ref p, .str (S l)] ∧ StpAt H p st ∧ st.ok ∧ Good l ∧ ∀ H', Ext H H' → Q (.str (S (mk st l))) H'
theorem fm_map (f : Nat → Nat) (l : List Nat) : l.filterMap (fun c => some (f c)) = l.map f := by
  induction l with
  | nil => rfl
  | cons c l ih => simp [List.filterMap_cons, ih]
theorem fm_filter (p : Nat → Prop) [DecidablePred p] (l : List Nat) : l.filterMap (fun c => if p c then some c else none) = l.filter (fun c => decide (p c)) := by
  induction l with
  | nil => rfl
  | cons c l ih =>
    by_cases h : p c
    · simp [List.filterMap_cons, h, ih]
    · simp [List.filterMap_cons, h, ih]
theorem mk_low (l : List Nat) : mk .low l = l.filterMap (fun c => some (lowC c)) := (fm_map _ l).symm
theorem mk_swap (a b : Nat) (l : List Nat) : mk (.swap a b) l = l.filterMap (fun c => some (swapC a b c)) := (fm_map _ l).symm
theorem mk_drop (cs : List Nat) (l : List Nat) : mk (.drop cs) l = l.filterMap (fun c => if c ∉ cs then some c else none) := (fm_filter _ l).symm
theorem ix_tupK {X : Cx} {K : PySem.W.Frag} (h : X.K = K) : IxR X (rIxT K) := by
  subst h; exact ix_tup
theorem ix_listK {X : Cx} {K : PySem.W.Frag} (h : X.K = K) : IxR X (rIxL K) := by
  subst h; exact ix_list
theorem sg_eq {a b : Nat} : V.str (sg a) = V.str (sg b) ↔ a = b := by
  constructor
  · intro h
    injection h with h
    have := SX.S_inj (a := [a]) (b := [b]) h
    injection this
  · rintro rfl; rfl
theorem slice_one (x : List Nat) (c : Nat) : ∃ m, Txt.slice (S x) (some (-1)) none = S m ∧ (V.str (S m) = V.str (sg c) ↔ x.getLast? = some c) := by
  by_cases h : x = []
  · subst h
    refine ⟨[], by decide +kernel, ?_⟩
    constructor
    · intro e
      injection e with e
      have := SX.S_inj (a := []) (b := [c]) e
      cases this
    · intro e; simp at e
  · refine ⟨_, slice_last h, ?_⟩
    have hp : 0 < x.length := List.length_pos_iff.mpr h
    have e : x.drop (x.length - 1) = [x[x.length - 1]] := by
      rw [List.drop_eq_getElem_cons (by omega)]
      rw [show x.length - 1 + 1 = x.length by omega, List.drop_length]
    rw [e]
    have e2 : x.getLast? = some (x[x.length - 1]) := by
      rw [List.getLast?_eq_getElem?, List.getElem?_eq_getElem (by omega)]
    rw [e2]
    constructor
    · intro h2
      rw [sg_eq.mp (show V.str (sg _) = V.str (sg c) from h2)]
    · intro h2
      injection h2 with h2
      rw [h2]; rfl
theorem drop_while_step {a : Nat} {l : List Nat} {i : Nat} (h : l[i]? = some a) : (l.drop i).dropWhile (fun c => decide (c = a)) = (l.drop (i + 1)).dropWhile (fun c => decide (c = a)) := by
  obtain ⟨hi, e⟩ := List.getElem?_eq_some_iff.mp h
  rw [List.drop_eq_getElem_cons hi, List.dropWhile_cons_of_pos (by simp [e])]
theorem drop_while_stop {a c : Nat} {l : List Nat} {i : Nat} (h : l[i]? = some c) (hc : c ≠ a) : (l.drop i).dropWhile (fun c => decide (c = a)) = l.drop i := by
  obtain ⟨hi, e⟩ := List.getElem?_eq_some_iff.mp h
  rw [List.drop_eq_getElem_cons hi, List.dropWhile_cons_of_neg (by simp [e, hc])]
section
variable {P : Program} {w : World} {K : PySem.W.Frag} {mg : Str → Option Value} {base : Heap}
end
end Pd

set_option maxHeartbeats 4000000
namespace Pd
open PySem PySem.Spec PyProof.Rows L2 SX
/-! ### the second family of drawing defs: wells and pools -/
theorem p27 : (10 : Int) ^ (27 : Int).toNat + 103 = 1000000000000000000000000103 := by decide +kernel
theorem p40' : (10 : Int) ^ (40 : Int).toNat + 121 = 10000000000000000000000000000000000000121 := by decide +kernel
theorem p38 : (10 : Int) ^ (38 : Int).toNat + 133 = 100000000000000000000000000000000000133 := by decide +kernel
theorem p9 : (10 : Int) ^ (9 : Int).toNat = 1000000000 := by decide +kernel
section
variable {P : Program} {w : World} {K : PySem.W.Frag} {mg : Str → Option Value} {base : Heap}
theorem ok_well {f : Addr} {fd : FuncData} (F : Fun K "_law_well" "_law_well" sLawWell f fd) (T : Nms mg) : FnOk P w K mg base CX0 1 f fd ["script", "k"] (spJar K) := by
  refine F.ok scLawWell (fun vs H Q E h => ?_) (fun cdv A outer s H vs Q E hr h => ?_)
  · obtain ⟨a, ns, k, rfl, _⟩ := h
    rfl
  · obtain ⟨a, ns, k, rfl, hS, hl, hk0, hk1, q⟩ := h
    have nd := scLawWell.nd
    have pw : ∀ e : Int, 0 ≤ e → e ≤ 1000 → CPowW 10 e := fun e h0 h1 => powW_ok2 (a := 4) (by decide) (by decide) h0 h1 (by decide)
    refine ⟨_, pss_cons (ps_set (i := 2) nd rfl (Or.inl rfl) pe_int)
      (C8.pss_cut (ps_if (pt_cmpR op_lt (pv 1) (pe_callB call_len_seq (by rfl) T.len PySem.boot_len (pa_cons (pv 0) pa_nil)) (nomark _))
        (pss_one (ps_set (i := 2) nd rfl (Or.inl rfl) (pe_callTy call_int1 (by rfl) T.int (by decide +kernel) (pa_cons (pe_ix ix_list (pv 0) (pv 1) (fun _ _ => rfl)) pa_nil)))) pss_nil)
      (pss_cons (ps_set (i := 3) nd rfl (Or.inl rfl) (pe_op op_mul pe_int (pv 2)))
      (C8.pss_cut (ps_if (pt_cmpR op_lt (pv 2) pe_int (nomark _)) (pss_one (ps_set (i := 3) nd rfl (Or.inl rfl) (pe_op op_sub (pe_op op_mul (pe_un un_neg pe_int) (pv 2)) pe_int))) pss_nil)
      (pss_one (ps_ret (pe_lst (pa_cons (pe_callB (call_max2 rfl) (by rfl) T.max (by decide +kernel) (pa_cons pe_int (pa_cons (pe_op op_sub (pv 3) (pe_op op_powW pe_int pe_int)) pa_nil)))
        (pa_cons (pe_op op_add (pe_op op_mod (pe_callTy call_int1 (by rfl) T.int (by decide +kernel) (pa_cons (pv 3) pa_nil)) (pe_op op_add (pe_op op_powW pe_int pe_int) pe_int)) (pe_op op_mul pe_int (pv 1)))
        (pa_cons pe_int pa_nil))))))))), ?_⟩
    refine ⟨fun σ' H' => H' = H ∧ ∃ c : Int, σ' = [some (.ref a), some (.int k), some (.int c), none], ?_, ?_⟩
    · refine ⟨_, rfl, _, rfl, a, _, rfl, .inl hS, _, _, rfl, rfl, _, rfl, ite2 (fun hlt => ?_) (fun _ => ⟨rfl, 0, rfl⟩)⟩
      rw [List.length_map] at hlt
      have hlt' := of_decide_eq_true hlt
      have hkn : k.toNat < ns.length := by omega
      have hat : atI (ns.map V.int) k = some (.int (ns[k.toNat]'hkn)) := by
        have e : ((k.toNat : Nat) : Int) = k := by omega
        have z := atI_nat (xs := ns.map V.int) (j := k.toNat) (v := .int (ns[k.toNat]'hkn)) (by simp [hkn])
        rw [e] at z
        exact z
      exact ⟨_, rfl, _, rfl, a, _, _, _, rfl, rfl, hS, hat, .inl ⟨_, rfl, rfl, _, rfl⟩⟩
    · rintro σ' H' ⟨rfl, c, rfl⟩
      refine ⟨_, rfl, _, _, rfl, rfl, .inl ⟨by decide, by decide⟩, ?_⟩
      refine ⟨fun σ' H'' => H'' = H' ∧ ∃ d : Int, σ' = [some (.ref a), some (.int k), some (.int c), some (.int d)], ?_, ?_⟩
      · refine ⟨_, rfl, _, _, rfl, rfl, _, rfl, ite2 (fun hlt => ?_) (fun _ => ⟨rfl, _, rfl⟩)⟩
        exact ⟨_, rfl, _, rfl, _, _, rfl, rfl, .inl ⟨by decide, by decide⟩, _, _, rfl, rfl, rfl, _, rfl⟩
      · rintro σ' H'' ⟨rfl, d, rfl⟩
        refine ⟨_, rfl, _, _, rfl, rfl, pw 18 (by decide) (by decide), _, _, rfl, rfl, _, _, rfl, _, rfl, .inl ⟨_, rfl, _, _, rfl, rfl, pw 27 (by decide) (by decide), _, _, rfl, rfl, _, _, rfl, rfl, (show (0:Int) < 10 ^ (27 : Int).toNat + 103 by rw [p27]; decide),
          _, rfl, _, _, rfl, rfl, .inl ⟨by decide, by decide⟩, _, _, rfl, rfl, by show 3 ≤ sizeLine; decide, fun l hl => ?_⟩⟩
        refine q l _ hl ⟨_, _, _, upd_same, ?_, ?_, ?_, by decide, by decide⟩ fun b o h => by rw [upd_ne (ne_of_none h hl)]; exact h
        · split <;> omega
        · rw [p27]; omega
        · rw [p27]; omega
theorem ok_bdraw {f : Addr} {fd : FuncData} (F : Fun K "_law_draw" "_law_draw" sLawDraw f fd) (T : Nms mg) : FnOk P w K mg base CX0 1 f fd ["well", "many"] spDraw := by
  refine F.ok scLawDraw (fun vs H Q E h => ?_) (fun cdv A outer s H vs Q E hr h => ?_)
  · obtain ⟨j, m, n, rfl, _⟩ := h
    rfl
  · obtain ⟨j, m, n, rfl, hJ, hn, hm1, hm2, q⟩ := h
    have nd := scLawDraw.nd
    obtain ⟨a, b, c, hj, ha, hb0, hb, hc0, hc⟩ := hJ
    have S : ∀ {H : Hp} {xs : List V}, H j = some (.lst xs) → SqL K H j xs := fun h => SqL.of h
    refine ⟨_, pss_cons (ps_if (pt_cmpR op_gt (pe_ix ix_list (pv 0) pe_int (fun _ _ => rfl)) pe_int (nomark _))
        (pss_cons (ps_set (i := 2) nd rfl (Or.inl rfl) (pe_op op_mod (pe_callTy call_int1 (by rfl) T.int (by decide +kernel) (pa_cons (pe_ix ix_list (pv 0) pe_int (fun _ _ => rfl)) pa_nil)) (pv 1)))
        (pss_cons (ps_asg (pe_op op_fdivW (pe_ix ix_list (pv 0) pe_int (fun _ _ => rfl)) (pv 1)) (pg_sub (pv 0) pe_int set_list))
        (pss_one (ps_ret (pv 2))))) pss_nil)
      (pss_cons (ps_set (i := 3) nd rfl (Or.inl rfl) (pe_op op_add (pe_ix ix_list (pv 0) pe_int (fun _ _ => rfl)) pe_int))
      (pss_cons (ps_asg (pv 3) (pg_sub (pv 0) pe_int set_list))
      (pss_cons (ps_set (i := 4) nd rfl (Or.inl rfl) (pe_op op_mod (pe_callTy call_int1 (by rfl) T.int (by decide +kernel) (pa_cons
          (pe_op op_add (pe_op op_powW (pe_op op_add (pe_ix ix_list (pv 0) pe_int (fun _ _ => rfl)) (pe_op op_mul pe_int (pv 3))) pe_int) (pe_op op_mul pe_int (pv 3))) pa_nil))
          (pe_op op_add (pe_op op_powW pe_int pe_int) pe_int)))
      (pss_cons (ps_set (i := 4) nd rfl (Or.inl rfl) (pe_op op_mod (pe_callTy call_int1 (by rfl) T.int (by decide +kernel) (pa_cons
          (pe_op op_powW (pe_op op_add (pv 4) (pe_op op_mul pe_int (pv 3))) pe_int) pa_nil))
          (pe_op op_add (pe_op op_powW pe_int pe_int) pe_int)))
      (pss_one (ps_ret (pe_op op_mod (pe_callTy call_int1 (by rfl) T.int (by decide +kernel) (pa_cons (pe_op op_fdivW (pv 4) (pe_op op_powW pe_int pe_int)) pa_nil)) (pv 1)))))))), ?_⟩
    have pw : ∀ e : Int, 0 ≤ e → e ≤ 1000 → CPowW 10 e := fun e h0 h1 => powW_ok2 (a := 4) (by decide) (by decide) h0 h1 (by decide)
    have m20 : m.natAbs < 2 ^ 200 := by
      have : (2:Nat)^200 = 1606938044258990275541962092341162602522202993782792835301376 := by decide +kernel
      skip
      omega
    refine ⟨_, rfl, j, _, 0, _, rfl, rfl, S hj, rfl, _, _, rfl, rfl, _, rfl, ite2 (fun hlt => ?_) (fun hlt => ?_)⟩
    · refine ⟨_, rfl, j, _, 0, _, rfl, rfl, S hj, rfl, .inl ⟨_, rfl, _, rfl, _, _, rfl, rfl, (show 0 < m by omega), ?_⟩⟩
      refine ⟨_, rfl, j, _, 0, _, rfl, rfl, S hj, rfl, _, rfl, _, _, rfl, rfl, wide_div (by omega) m20 (by decide) (by decide), ?_⟩
      refine ⟨_, rfl, j, _, 0, 0, rfl, rfl, hj, rfl, _, rfl, ?_⟩
      refine q _ _ (Int.emod_nonneg _ (by omega)) (Int.emod_lt_of_pos _ (by omega)) ⟨a / m, b, c, upd_same, Int.ediv_nonneg ha (by omega), hb0, hb, hc0, by omega⟩ .upd
    · refine ⟨_, rfl, j, _, 2, _, rfl, rfl, S hj, rfl, _, _, rfl, rfl, ?_⟩
      refine ⟨_, rfl, _, rfl, j, _, 2, 2, rfl, rfl, hj, rfl, ?_⟩
      have hj2 : (L2.upd H j (.lst [V.int a, V.int b, V.int (c + 1)])) j = some (.lst [V.int a, V.int b, V.int (c + 1)]) := upd_same
      show tSeq _ _ _ _ (L2.upd H j (.lst [V.int a, V.int b, V.int (c + 1)]))
      have l140 : (2:Nat)^140 = 1393796574908163946345982392040522594123776 := by decide +kernel
      refine ⟨_, rfl, j, _, 1, _, rfl, rfl, S hj2, rfl, _, rfl, _, _, rfl, rfl, .inl ⟨by decide, by decide⟩, _, _, rfl, rfl, _, _, rfl, rfl, powW_ok2 (a := 140) (by rw [l140]; omega) (by decide) (by decide) (by decide) (by decide),
        _, rfl, _, _, rfl, rfl, .inl ⟨by decide, by decide⟩, _, _, rfl, rfl, .inl ⟨_, rfl, _, _, rfl, rfl, pw 40 (by decide) (by decide), _, _, rfl, rfl, _, _, rfl, rfl, (show (0:Int) < 10 ^ (40 : Int).toNat + 121 by rw [p40']; decide), ?_⟩⟩
      generalize hs : ((b + 15485863 * (c + 1)) ^ Int.toNat 3 + 982451653 * (c + 1)) % (10 ^ Int.toNat 40 + 121) = st
      have hs0 : 0 ≤ st := by rw [← hs]; exact Int.emod_nonneg _ (by rw [p40']; decide)
      have hs1 : st < 10000000000000000000000000000000000000121 := by rw [← hs, p40']; exact Int.emod_lt_of_pos _ (by decide)
      refine ⟨_, rfl, _, rfl, _, _, rfl, rfl, .inl ⟨by decide, by decide⟩, _, _, rfl, rfl, _, _, rfl, rfl, powW_ok2 (a := 140) (by rw [l140]; omega) (by decide) (by decide) (by decide) (by decide),
        .inl ⟨_, rfl, _, _, rfl, rfl, pw 38 (by decide) (by decide), _, _, rfl, rfl, _, _, rfl, rfl, (show (0:Int) < 10 ^ (38 : Int).toNat + 133 by rw [p38]; decide), ?_⟩⟩
      refine ⟨_, rfl, _, _, rfl, rfl, pw 9 (by decide) (by decide), _, _, rfl, rfl, wide_div (b := 200) (by rw [p9]; decide) (by rw [p9]; decide +kernel) (by decide) (by decide), .inl ⟨_, rfl, _, rfl, _, _, rfl, rfl, (show 0 < m by omega), ?_⟩⟩
      exact q _ _ (Int.emod_nonneg _ (by omega)) (Int.emod_lt_of_pos _ (by omega)) ⟨a, b, c + 1, upd_same, ha, hb0, hb, by omega, by omega⟩ .upd
end
end Pd

set_option maxHeartbeats 4000000
namespace Pd
open PySem PySem.Spec PyProof.Rows L2 SX
theorem chS : ("abcdefghijklmnopqrstuvwxyzABCDEFGHIJKLMNOPQRSTUVWXYZ0123456789 -._/'" : Str) = S CH := by decide +kernel
def spChars : Sp := fun vs H Q _ => vs = [] ∧ Q (.str (S CH)) H
/-- six signs, as a text -/
def PoolOk (l : List Nat) : Prop := l.length = 6 ∧ ∀ c ∈ l, c ∈ CH
def spPool : Sp := fun vs H Q _ => ∃ (j : Addr) (n : Nat), vs = [.ref j] ∧ JarAt H j n ∧ n + 6 < 1000000 ∧ ∀ l H', PoolOk l → JarAt H' j (n + 6) → Kp j H H' → Q (.str (S l)) H'
def spCharacter : Sp := fun vs H Q _ => ∃ (j : Addr) (n : Nat) (l : List Nat), vs = [.ref j, .str (S l)] ∧ JarAt H j n ∧ PoolOk l ∧ n + 2 < 1000000 ∧ ∀ c H', c ∈ CH → JarAt H' j (n + 2) → Kp j H H' → Q (.str (sg c)) H'
def spBstep : Sp := fun vs H Q _ => ∃ (j : Addr) (n : Nat) (l : List Nat), vs = [.ref j, .str (S l)] ∧ JarAt H j n ∧ PoolOk l ∧ n + 50 < 1000000 ∧
  ∀ p st H', H p = none → st.ok → StpAt H' p st → JarAt H' j (n + 50) → Kp j H H' → Q (.ref p) H'
section
variable {P : Program} {w : World} {K : PySem.W.Frag} {mg : Str → Option Value} {base : Heap}
theorem ok_chars {f : Addr} {fd : FuncData} (F : Fun K "_law_chars" "_law_chars" sLawChars f fd) : FnOk P w K mg base CX0 1 f fd [] spChars := by
  refine F.ok scLawChars (fun vs H Q E h => ?_) (fun cdv A outer s H vs Q E hr h => ?_)
  · obtain ⟨rfl, _⟩ := h
    rfl
  · obtain ⟨rfl, q⟩ := h
    refine ⟨_, pss_one (ps_ret pe_str), ?_⟩
    show Q (.str _) H
    rw [chS]
    exact q
/-- a def without arguments, by its name -/
theorem pe_cl0 {X : Cx} {k j : Nat} {x : Str} {sp : Sp} {p pos : Pos} (c : Cl X.prog X.w X.K X.mg X.base k x sp) (hr : Room j X.A) (hk : k ≤ j) (hg : Gl X x) (hdb : (x == ("__debug__" : Str)) = false := by decide) :
    PE X (.Call (.Name x p) [] [] pos) (tCall sp [] E0 tNil) := by
  obtain ⟨f, fd, ps, F, hm, kp, b⟩ := c.ex
  exact pe_call0 F (hr.mono hk) hg hm kp b .nil pass0 hdb
theorem CH_at {r : Int} (h0 : 0 ≤ r) (h1 : r < 68) : ∃ c ∈ CH, (S CH).cps[r.toNat]? = some c := by
  have hr : r.toNat < CH.length := by rw [CH_len]; omega
  exact ⟨CH[r.toNat], List.getElem_mem hr, S_at hr⟩
theorem ok_character {f : Addr} {fd : FuncData} (F : Fun K "_law_character" "_law_character" sLawCharacter f fd) (D : Cl P w K mg base 1 "_law_draw" spDraw) (C : Cl P w K mg base 1 "_law_chars" spChars) : FnT P w K mg base CX0 2 f spCharacter := by
  refine fnT_if F scLawCharacter rfl (fun kV doc pm an cdv ct us hl => match us, hl with | [_, _], _ => rfl) (fun vs H Q E h => ?_) (fun cdv A outer s H vs Q E hr h => ?_)
  · obtain ⟨j, n, l, rfl, _⟩ := h
    rfl
  · obtain ⟨j, n, l, rfl, hJ, ⟨hl, hc⟩, hn, q⟩ := h
    refine ⟨_, _, _, ptf_eqI (pe_cl D hr (by decide) rfl (pa_cons (pv 0) (pa_cons pe_int pa_nil))), peg_ix (pe_cl0 C hr (by decide) rfl) (pe_cl D hr (by decide) rfl (pa_cons (pv 0) (pa_cons pe_int pa_nil))) (fun _ _ => rfl),
      peg_ix (pv 1) (pe_cl D hr (by decide) rfl (pa_cons (pv 0) (pa_cons pe_int pa_nil))) (fun _ _ => rfl), ?_⟩
    refine ⟨_, rfl, j, 4, n, rfl, hJ, by omega, by decide, by decide, fun r H1 h0 h1 J1 k1 => ⟨r, rfl, ite2 (fun _ => ?_) (fun _ => ?_)⟩⟩
    · refine ⟨rfl, _, rfl, _, rfl, j, 68, _, rfl, J1, by omega, by decide, by decide, fun r2 H2 h02 h12 J2 k2 => ?_⟩
      obtain ⟨c, hcC, e⟩ := CH_at h02 h12
      exact ⟨r2, c, rfl, h02, by rw [S_len, CH_len]; omega, by rw [S_len]; decide, e, q _ _ hcC J2 (k1.trans k2)⟩
    · refine ⟨_, rfl, _, rfl, _, rfl, j, 6, _, rfl, J1, by omega, by decide, by decide, fun r2 H2 h02 h12 J2 k2 => ?_⟩
      have hr2 : r2.toNat < l.length := by omega
      exact ⟨r2, l[r2.toNat], rfl, h02, by rw [S_len]; omega, by rw [S_len]; omega, S_at hr2, q _ _ (hc _ (List.getElem_mem hr2)) J2 (k1.trans k2)⟩
theorem ok_bstep {f : Addr} {fd : FuncData} (F : Fun K "_law_step" "_law_step" sLawStep f fd) (T : Nms mg) (D : Cl P w K mg base 1 "_law_draw" spDraw) (G : ClT P w K mg base 2 "_law_character" spCharacter) : FnOk P w K mg base CX0 3 f fd ["well", "pool"] spBstep := by
  refine F.ok scLawStep (fun vs H Q E h => ?_) (fun cdv A outer s H vs Q E hr h => ?_)
  · obtain ⟨j, n, l, rfl, _⟩ := h
    rfl
  · obtain ⟨j, n, l, rfl, hJ, hG, hn, q⟩ := h
    have nd := scLawStep.nd
    refine ⟨_, pss_cons (ps_set (i := 2) nd rfl (Or.inl rfl) (pe_cl D hr (by decide) rfl (pa_cons (pv 0) (pa_cons pe_int pa_nil))))
      (pss_cons (ps_if (pt_cmpR op_eq (pv 2) pe_int (nomark _)) (pss_one (ps_ret (pe_tup (pa_cons pe_str pa_nil)))) pss_nil)
      (pss_cons (ps_if (pt_cmpR op_eq (pv 2) pe_int (nomark _)) (pss_one (ps_retSwap (pef_cl G hr (by decide) rfl (pa_cons (pv 0) (pa_cons (pv 1) pa_nil))) (pef_cl G hr (by decide) rfl (pa_cons (pv 0) (pa_cons (pv 1) pa_nil))))) pss_nil)
      (pss_cons (ps_if (pt_cmpR op_eq (pv 2) pe_int (nomark _))
        (pss_cons (ps_set (i := 3) nd rfl (Or.inl rfl) pe_str)
        (pss_cons (ps_for PassesOwn.never rfl (pi_range1 rfl T.range (pa_cons (pe_op op_add pe_int (pe_cl D hr (by decide) rfl (pa_cons (pv 0) (pa_cons pe_int pa_nil)))) pa_nil)) (pg_name (i := 4) nd rfl (Or.inl rfl))
          (pss_cons (ps_set (i := 5) nd rfl (Or.inl rfl) (PEF.pe (pef_cl G hr (by decide) rfl (pa_cons (pv 0) (pa_cons (pv 1) pa_nil)))))
          (pss_one (ps_if (pt_cmpR op_notIn_sign (pv 5) (pv 3) rfl) (pss_one (ps_set (i := 3) nd rfl (Or.inl rfl) (pe_op op_add_str (pv 3) (pv 5)))) pss_nil))))
        (pss_one (ps_ret (pe_tup (pa_cons pe_str (pa_cons (pv 3) pa_nil))))))) pss_nil)
      (pss_cons (ps_if (pt_cmpR op_lt (pv 2) pe_int (nomark _)) (pss_one (ps_ret (pe_tup (pa_cons (pe_ix ix_list (pe_lst (pa_cons pe_str (pa_cons pe_str pa_nil))) (pe_op op_sub (pv 2) pe_int) (fun _ _ => rfl)) (pa_cons (PEF.pe (pef_cl G hr (by decide) rfl (pa_cons (pv 0) (pa_cons (pv 1) pa_nil)))) pa_nil))))) pss_nil)
      (pss_one (ps_ret (pe_tup (pa_cons pe_str (pa_cons (pe_op op_add pe_int (pe_cl D hr (by decide) rfl (pa_cons (pv 0) (pa_cons pe_int pa_nil)))) pa_nil)))))))))
      , ?_⟩
    have hj0 := hJ.lst
    obtain ⟨xs0, hx0⟩ := id hj0
    refine ⟨_, rfl, j, 6, n, rfl, hJ, by omega, by decide, by decide, fun r H1 h0 h1 J1 k1 => ?_⟩
    have new : ∀ {H3 : Hp} {p : Addr} {o : HO}, Kp j H H3 → JarAt H3 j (n + 50) → H3 p = none → H p = none ∧ JarAt (L2.upd H3 p o) j (n + 50) ∧ Kp j H (L2.upd H3 p o) := fun {H3 p o} k J hp =>
      ⟨k.none hp hj0 J.lst, J.new hp, k.new hp⟩
    refine ⟨_, rfl, rfl, _, rfl, ite2 (fun _ => ?_) (fun e0 => ?_)⟩
    · refine ⟨by show 1 ≤ sizeLine; decide, fun p hp => ?_⟩
      obtain ⟨a1, a2, a3⟩ := new (o := .tup [V.str "lower"]) k1 (J1.le (by omega)) hp
      exact q p .low _ a1 trivial upd_same a2 a3
    refine ⟨_, rfl, rfl, _, rfl, ite2 (fun _ => ?_) (fun e1 => ?_)⟩
    · refine ⟨_, rfl, _, rfl, j, _, l, rfl, J1, hG, by omega, fun c H2 hc J2 k2 => ?_⟩
      refine ⟨_, rfl, _, rfl, j, _, l, rfl, J2, hG, by omega, fun d H3 hd J3 k3 => ?_⟩
      refine ⟨_, _, rfl, rfl, fun p H4 np sw hs4 => ?_⟩
      have k13 := (k1.trans k2).trans k3
      obtain ⟨xs3, hx3⟩ := J3.lst
      refine q p (.swap c d) H4 (k13.none np hj0 J3.lst) ⟨hc, hd⟩ sw ((J3.kp (hs4 j (ne_of_none hx3 np))).le (by omega)) fun b o hb hbo => ?_
      have b3 := k13 b o hb hbo
      exact (hs4 b (ne_of_none b3 np)).trans b3
    refine ⟨_, rfl, rfl, _, rfl, ite2 (fun _ => ?_) (fun e2 => ?_)⟩
    · refine ⟨_, rfl, j, 10, _, rfl, J1, by omega, by decide, by decide, fun r2 H2 h02 h12 J2 k2 => ⟨_, _, rfl, rfl, _, rfl, by omega, by omega, ?_⟩⟩
      refine for_range (lo := 0) (n := (1 + r2).toNat) (fun i σ H' => ∃ (cs : List Nat) (u v : Option V), σ = [some (.ref j), some (.str (S l)), some (.int r), some (.str (S cs)), u, v] ∧ (∀ c ∈ cs, c ∈ CH) ∧ cs.Nodup ∧ (0 < i → 1 ≤ cs.length) ∧ cs.length ≤ i ∧ JarAt H' j (n + 2 + 2 * i) ∧ Kp j H H')
        ⟨[], none, none, rfl, (fun _ h => nomatch h), List.nodup_nil, fun h => absurd h (by decide), Nat.le_refl _, J2, k1.trans k2⟩ ?_ ?_
      · rintro i σ H3 hi ⟨cs, u, v, rfl, hcs, hnd, hc1, hcl, J3, k3⟩
        refine ⟨_, rfl, _, rfl, j, _, l, rfl, J3, hG, by omega, fun d H4 hd J4 k4 => ?_⟩
        refine ⟨_, rfl, _, rfl, d, _, rfl, rfl, _, rfl, ?_⟩
        show if (!decide (d ∈ cs)) = true then _ else _
        by_cases hdl : d ∈ cs
        · rw [decide_eq_true hdl]
          exact iteF ⟨cs, _, _, rfl, hcs, hnd, fun _ => List.length_pos_of_mem hdl, by omega, J4.le (by omega), k3.trans k4⟩
        · rw [decide_eq_false hdl]
          refine iteT ⟨_, rfl, _, rfl, _, _, rfl, rfl, by rw [sg_S, S_len, S_len, sizeLine_eq]; simp; omega, ?_⟩
          rw [sg_S, S_cat]
          refine ⟨cs ++ [d], _, _, rfl, fun c hc => ?_, ?_, fun _ => by rw [List.length_append]; simp, by rw [List.length_append]; simp; omega, J4.le (by omega), k3.trans k4⟩
          · rcases List.mem_append.mp hc with h | h
            · exact hcs c h
            · rw [List.mem_singleton.mp h]; exact hd
          · rw [List.nodup_append]
            refine ⟨hnd, List.nodup_cons.mpr ⟨List.not_mem_nil, List.nodup_nil⟩, fun x hx y hy => ?_⟩
            rw [List.mem_singleton.mp hy]
            rintro rfl
            exact hdl hx
      · rintro σ H3 ⟨cs, u, v, rfl, hcs, hnd, hc1, hcl, J3, k3⟩
        refine ⟨_, rfl, by show 2 ≤ sizeLine; decide, fun p hp => ?_⟩
        obtain ⟨a1, a2, a3⟩ := new (o := .tup [V.str "drop", V.str (S cs)]) k3 (J3.le (by omega)) hp
        exact q p (.drop cs) _ a1 ⟨hc1 (by omega), by omega, hnd, hcs⟩ upd_same a2 a3
    have e0' : r ≠ 0 := fun e => e0 (decide_eq_true (congrArg V.int e))
    have e1' : r ≠ 1 := fun e => e1 (decide_eq_true (congrArg V.int e))
    have e2' : r ≠ 2 := fun e => e2 (decide_eq_true (congrArg V.int e))
    refine ⟨_, rfl, _, _, rfl, rfl, _, rfl, ite2 (fun h5 => ?_) (fun h5 => ?_)⟩
    · have h5 := of_decide_eq_true h5
      refine ⟨by show 2 ≤ sizeLine; decide, fun lx hlx => ?_⟩
      have na : (L2.upd H1 lx (.lst [V.str "lead", V.str "once"])) lx = some (.lst [V.str "lead", V.str "once"]) := upd_same
      have k2' : Kp j H (L2.upd H1 lx (.lst [V.str "lead", V.str "once"])) := k1.new hlx
      have J2' : JarAt (L2.upd H1 lx (.lst [V.str "lead", V.str "once"])) j (n + 1) := J1.new hlx
      obtain rfl | rfl : r = 3 ∨ r = 4 := by omega
      · refine ⟨_, rfl, _, _, rfl, rfl, lx, _, 0, V.str "lead", rfl, rfl, SqL.of na, rfl, _, rfl, _, rfl, j, _, l, rfl, J2', hG, by omega, fun c H3 hc J3 k3 => ⟨by show 2 ≤ sizeLine; decide, fun p hp => ?_⟩⟩
        obtain ⟨a1, a2, a3⟩ := new (o := .tup [V.str "lead", V.str (sg c)]) (k2'.trans k3) (J3.le (by omega)) hp
        exact q p (.lead c) _ a1 hc upd_same a2 a3
      · refine ⟨_, rfl, _, _, rfl, rfl, lx, _, 1, V.str "once", rfl, rfl, SqL.of na, rfl, _, rfl, _, rfl, j, _, l, rfl, J2', hG, by omega, fun c H3 hc J3 k3 => ⟨by show 2 ≤ sizeLine; decide, fun p hp => ?_⟩⟩
        obtain ⟨a1, a2, a3⟩ := new (o := .tup [V.str "once", V.str (sg c)]) (k2'.trans k3) (J3.le (by omega)) hp
        exact q p (.once c) _ a1 hc (.inl upd_same) a2 a3
    · refine ⟨_, rfl, j, 9, _, rfl, J1, by omega, by decide, by decide, fun r3 H3 h03 h13 J3 k3 => ⟨_, _, rfl, rfl, by show 2 ≤ sizeLine; decide, fun p hp => ?_⟩⟩
      obtain ⟨a1, a2, a3⟩ := new (o := .tup [V.str "cut", V.int (1 + r3)]) (k1.trans k3) (J3.le (by omega)) hp
      refine q p (.cut (1 + r3).toNat) _ a1 ⟨by omega, by omega⟩ ?_ a2 a3
      show (L2.upd H3 p _) p = some (.tup [V.str "cut", V.int (((1 + r3).toNat : Nat) : Int)])
      rw [show (((1 + r3).toNat : Nat) : Int) = 1 + r3 by omega]
      exact upd_same
end
end Pd

set_option maxHeartbeats 4000000
namespace Pd
open PySem PySem.Spec PyProof.Rows L2 SX
/-- the module's constants -/
structure Cst (mg : Str → Option Value) : Prop where
  chars : ∃ t, mg "CHARACTERS" = some (.str "abcdefghijklmnopqrstuvwxyzABCDEFGHIJKLMNOPQRSTUVWXYZ0123456789 -._/'" t)
  most : ∃ t, mg "LONGEST_TEXT" = some (.int 60 t)
  drop : ∃ t, mg "MOST_DROPPED" = some (.int 10 t)
  cut : ∃ t, mg "LONGEST_CUT" = some (.int 9 t)
  steps : ∃ t, mg "MOST_STEPS" = some (.int 6 t)
theorem chars_S : ("abcdefghijklmnopqrstuvwxyzABCDEFGHIJKLMNOPQRSTUVWXYZ0123456789 -._/'" : Str) = S CH := by decide +kernel
/-- a comprehension over a text that gives a value for each sign -/
theorem lc_vals {l : List Nat} {g : TG} {te : TE} {vs : List Nat} {σ : L2.St} {H1 : Hp} {D : Addr} {Qd : Hp → Prop} (f : Nat → V) (hl : l.length ≤ 1000) (hD : H1 D = none)
    (hs : ∀ c H acc (Nx : Hp → Prop), c ∈ l → Ext H1 H → H D = some (.lst acc) → acc.length < sizeLine →
      (∀ H', H' D = some (.lst (acc ++ [f c])) → Ext H1 H' → Nx H') →
      g (.str (sg c)) (wipe σ vs) H fun σ2 H2 => wipe σ2 vs = wipe σ vs ∧ tYes σ2 H2 fun b H3 =>
        if b = true then te σ2 H3 fun y H4 => ∃ acc', H4 D = some (.lst acc') ∧ acc'.length < sizeLine ∧ Nx (upd H4 D (.lst (acc' ++ [y]))) else Nx H3)
    (hd : ∀ H, H D = some (.lst (l.map f)) → Ext H1 H → Qd H) :
    ∃ W : Nat → Nat → Hp → Prop, (∃ m, W 0 m (upd H1 D (.lst []))) ∧ ∀ i m H, W i m H →
      ((Its (S l)).stop i H ∧ Qd H) ∨ ((Its (S l)).go i H ∧ ∃ Nx : Hp → Prop, (∀ H', Nx H' → ∃ m', m' < m ∧ W (i + 1) m' H') ∧ ∀ x H', (Its (S l)).yld i H x H' → g x (wipe σ vs) H' fun σ2 H2 => wipe σ2 vs = wipe σ vs ∧ tYes σ2 H2 fun b H3 =>
        if b = true then te σ2 H3 fun y H4 => ∃ acc, H4 D = some (.lst acc) ∧ acc.length < sizeLine ∧ Nx (upd H4 D (.lst (acc ++ [y]))) else Nx H3) := by
  have hsz : (S l).cps.size = l.length := by simp [S]
  have key := lc_it (g := g) (tt := tYes) (te := te) (vs := vs) (σ := σ) (H1 := H1) (D := D) (Qd := Qd) (walk_str (z := S l))
    (fun i H => H D = some (.lst ((l.take i).map f)) ∧ Ext H1 H) ⟨by rw [List.take_zero]; exact upd_same, Ext.refl.new hD⟩ (fun _ _ _ _ => trivial) ?_ ?_
  · exact key
  · rintro i x H H' hi ⟨h1, h2⟩ ⟨rfl, c, hc, rfl⟩
    have hc' : l[i]? = some c := by simpa [S] using hc
    refine hs c H' _ (fun H' => H' D = some (.lst ((l.take (i + 1)).map f)) ∧ Ext H1 H') (List.mem_of_getElem? hc') h2 h1 (by rw [List.length_map, sizeLine_eq]; have := List.length_take_le' i l; omega) fun H'' e1 e2 => ⟨?_, e2⟩
    rw [e1, List.take_succ, hc', List.map_append]
    rfl
  · rintro H ⟨h1, h2⟩
    rw [hsz, List.take_length] at h1
    exact hd H h1 h2
def isChr : List Nat → Bool
  | [c] => decide (c ∈ CH)
  | _ => false
def spIsChar : Sp := fun vs H Q _ => ∃ l : List Nat, vs = [.str (S l)] ∧ l.length ≤ 1000 ∧ Q (.bl (isChr l)) H
def goodB (l : List Nat) : Bool := decide (l.length ≤ 60) && l.all (fun c => decide (c ∈ CH))
theorem goodB_of {l : List Nat} (h : Good l) : goodB l = true := by
  unfold goodB
  rw [decide_eq_true h.2, Bool.true_and, List.all_eq_true]
  exact fun c hc => decide_eq_true (h.1 c hc)
theorem goodB_iff {l : List Nat} : goodB l = true ↔ Good l := by
  constructor
  · intro h
    unfold goodB at h
    rw [Bool.and_eq_true, List.all_eq_true] at h
    exact ⟨fun c hc => of_decide_eq_true (h.2 c hc), of_decide_eq_true h.1⟩
  · exact goodB_of
def spIsText : Sp := fun vs H Q _ => ∃ l : List Nat, vs = [.str (S l)] ∧ l.length ≤ 1000 ∧ ∀ H', Ext H H' → Q (.bl (goodB l)) H'
def spIsInt : Sp := fun vs H Q _ => ∃ n : Int, vs = [.int n] ∧ Q (.bl true) H
section
variable {P : Program} {w : World} {K : PySem.W.Frag} {mg : Str → Option Value} {base : Heap}
theorem ok_isChar {f : Addr} {fd : FuncData} (F : Fun K "is_character" "is_character" sIsCharacter f fd) (T : Nms mg) (C : Cst mg) : FnOk P w K mg base CX0 1 f fd ["value"] spIsChar := by
  refine F.ok scIsCharacter (fun vs H Q E h => ?_) (fun cdv A outer s H vs Q E hr h => ?_)
  · obtain ⟨l, rfl, _⟩ := h
    rfl
  · obtain ⟨l, rfl, hl, q⟩ := h
    have nd := scIsCharacter.nd
    obtain ⟨tc, hc⟩ := C.chars
    refine ⟨_, pss_one (ps_ret (pe_and (pe_callB call_isi (by rfl) T.isi (by decide +kernel) (pa_cons (pv 0) (pa_cons (pe_bltn (v := .ty "str") (by rfl) T.str (by decide +kernel) rfl) pa_nil)))
      (pe_and (pe_cmpR op_eq (pe_callB call_len_str (by rfl) T.len PySem.boot_len (pa_cons (pv 0) pa_nil)) pe_int (nomark _)) (pe_one (pe_cmpR op_in_sign (pv 0) (pe_glob (v := .str _) rfl hc ⟨_, rfl⟩) rfl))))), ?_⟩
    refine ⟨_, rfl, _, _, _, _, true, rfl, .ty "str", .base (.str _), kit_ty (by decide +kernel), true, rfl, iteT ?_⟩
    refine ⟨_, rfl, _, rfl, by rw [S_len, sizeLine_eq]; omega, rfl, _, rfl, ?_⟩
    rw [S_len]
    match l, hl, q with
    | [], _, q => exact q
    | [c], _, q =>
      refine iteT ⟨_, rfl, c, _, rfl, rfl, ?_⟩
      rw [chars_S]
      exact q
    | a :: b :: r, _, q =>
      have e : decide (V.int (((a :: b :: r).length : Nat) : Int) = V.int 1) = false := decide_eq_false (by
        intro h; injection h with h; rw [List.length_cons, List.length_cons] at h; omega)
      rw [e]
      exact iteF q
theorem ok_isText {f : Addr} {fd : FuncData} (F : Fun K "is_text" "is_text" sIsText f fd) (T : Nms mg) (C : Cst mg) : FnOk P w K mg base CX0 1 f fd ["value"] spIsText := by
  refine F.ok scIsText (fun vs H Q E h => ?_) (fun cdv A outer s H vs Q E hr h => ?_)
  · obtain ⟨l, rfl, _⟩ := h
    rfl
  · obtain ⟨l, rfl, hl, q⟩ := h
    have nd := scIsText.nd
    obtain ⟨tc, hc⟩ := C.chars
    obtain ⟨tm, hm⟩ := C.most
    refine ⟨_, pss_cons (ps_if (PW.pt (pw_or (pt_not (pt_val (pe_callB call_isi (by rfl) T.isi (by decide +kernel) (pa_cons (pv 0) (pa_cons (pe_bltn (v := .ty "str") (by rfl) T.str (by decide +kernel) rfl) pa_nil)))))
        (pw_or1 (pt_cmpR op_gt (pe_callB call_len_str (by rfl) T.len PySem.boot_len (pa_cons (pv 0) pa_nil)) (pe_glob (v := .int 60) rfl hm ⟨_, rfl⟩) (nomark _))))) (pss_one (ps_ret pe_bl)) pss_nil)
      (pss_one (ps_ret (pe_callB (cr_all rfl) (by rfl) T.all (by decide +kernel) (pa_cons (pe_lc (own := [("character", 1)]) (g := gName 1) (tt := tYes) rfl nd (pi_str (pv 0)) (blkOk_by (N := ["value", "character"]) (sc := defScope sIsText) (by decide +kernel)) (fun _ _ _ _ _ => pg_name (i := 1) nd rfl (Or.inl rfl)) (fun _ _ _ _ _ => pts_nil)
          (fun _ _ _ _ _ => pe_cmpR op_in_sign (pv 1) (pe_glob (v := .str _) rfl hc ⟨_, rfl⟩) rfl)) pa_nil)))), ?_⟩
    refine ⟨_, rfl, _, _, _, _, true, rfl, .ty "str", .base (.str _), kit_ty (by decide +kernel), true, rfl, ?_⟩
    refine iteF ⟨_, rfl, _, rfl, by rw [S_len, sizeLine_eq]; omega, _, _, rfl, rfl, _, rfl, ?_⟩
    rw [S_len]
    by_cases h60 : l.length ≤ 60
    · rw [decide_eq_false (show ¬ ((l.length : Nat) : Int) > 60 by omega)]
      refine iteF ⟨_, rfl, _, rfl, fun D hD => lc_vals (fun c => V.bl (decide (c ∈ CH))) hl hD (fun c H2 acc Nx hc' k2 hacc hal nx => ⟨rfl, _, rfl, c, _, rfl, rfl, acc, hacc, hal, nx _ ?_ (k2.new hD)⟩) fun H2 h2 k2 => ?_⟩
      · rw [chars_S]; exact upd_same
      · refine ⟨D, l.map (fun c => decide (c ∈ CH)), rfl, SqL.of ?_, ?_⟩
        · rw [List.map_map]; exact h2
        · have e : (l.map (fun c => decide (c ∈ CH))).all id = goodB l := by
            unfold goodB
            rw [decide_eq_true h60, Bool.true_and, List.all_map]; rfl
          rw [e]
          exact q H2 k2
    · rw [decide_eq_true (show ((l.length : Nat) : Int) > 60 by omega)]
      refine iteT ?_
      have e : goodB l = false := by unfold goodB; rw [decide_eq_false h60, Bool.false_and]
      rw [e] at q
      exact q H .refl
theorem ok_isInt {f : Addr} {fd : FuncData} (F : Fun K "is_integer" "is_integer" sIsInteger f fd) (T : Nms mg) : FnOk P w K mg base CX0 1 f fd ["value"] spIsInt := by
  refine F.ok scIsInteger (fun vs H Q E h => ?_) (fun cdv A outer s H vs Q E hr h => ?_)
  · obtain ⟨l, rfl, _⟩ := h
    rfl
  · obtain ⟨n, rfl, q⟩ := h
    refine ⟨_, pss_one (ps_ret (pe_and (pe_callB call_isi (by rfl) T.isi (by decide +kernel) (pa_cons (pv 0) (pa_cons (pe_bltn (v := .ty "int") (by rfl) T.int (by decide +kernel) rfl) pa_nil)))
      (pe_one (pe_not (pe_callB call_isi (by rfl) T.isi (by decide +kernel) (pa_cons (pv 0) (pa_cons (pe_bltn (v := .ty "bool") (by rfl) T.bool (by decide +kernel) rfl) pa_nil))))))), ?_⟩
    refine ⟨_, rfl, _, _, _, _, true, rfl, .ty "int", .base (.int n), kit_ty (by decide +kernel), true, rfl, iteT ?_⟩
    exact ⟨_, rfl, _, _, _, _, false, rfl, .ty "bool", .base (.int n), kit_ty (by decide +kernel), false, rfl, q⟩
end
end Pd

set_option maxHeartbeats 4000000
namespace Pd
open PySem PySem.Spec PyProof.Rows L2 SX
def spIsChoice : Sp := fun vs H Q _ => ∃ cs : List Nat, vs = [.str (S cs)] ∧ Stp.ok (.drop cs) ∧ ∀ H', Ext H H' → Q (.bl true) H'
def spIsStep : Sp := fun vs H Q _ => ∃ (p : Addr) (st : Stp), vs = [.ref p] ∧ StpAt H p st ∧ st.ok ∧ ∀ H', Ext H H' → Q (.bl true) H'
theorem StpAt.ty {K : PySem.W.Frag} {H : Hp} {p : Addr} {st : Stp} (h : StpAt H p st) : TyX K H (.ref p) (.type "tuple") := by
  cases st with
  | swap a b =>
    obtain ⟨n, t0, t, u, e, _⟩ := h
    exact .fTuple e
  | low => exact .base (.tup h)
  | drop _ => exact .base (.tup h)
  | lead _ => exact .base (.tup h)
  | once _ =>
    rcases h with h | ⟨o, h⟩
    · exact .base (.tup h)
    · exact .fTuple h
  | cut _ => exact .base (.tup h)
theorem isChr_one {c : Nat} (h : c ∈ CH) : isChr [c] = true := decide_eq_true h
section
variable {P : Program} {w : World} {K : PySem.W.Frag} {mg : Str → Option Value} {base : Heap}
theorem ok_isChoice {f : Addr} {fd : FuncData} (F : Fun K "_is_choice" "_is_choice" sIsChoice f fd) (T : Nms mg) (C : Cst mg) (G : Cl P w K mg base 1 "is_character" spIsChar) : FnOk P w K mg base CX0 2 f fd ["value"] spIsChoice := by
  refine F.ok scIsChoice (fun vs H Q E h => ?_) (fun cdv A outer s H vs Q E hr h => ?_)
  · obtain ⟨l, rfl, _⟩ := h
    rfl
  · obtain ⟨cs, rfl, ⟨h1, h2, h3, h4⟩, q⟩ := h
    have nd := scIsChoice.nd
    obtain ⟨td, hd⟩ := C.drop
    refine ⟨_, pss_cons (ps_if (PW.pt (pw_or (pt_not (pt_val (pe_callB call_isi (by rfl) T.isi (by decide +kernel) (pa_cons (pv 0) (pa_cons (pe_bltn (v := .ty "str") (by rfl) T.str (by decide +kernel) rfl) pa_nil)))))
        (pw_or1 (pt_not (pt_chain op_le op_le pe_int (pe_callB call_len_str (by rfl) T.len PySem.boot_len (pa_cons (pv 0) pa_nil)) (pe_glob (v := .int 10) rfl hd ⟨_, rfl⟩)))))) (pss_one (ps_ret pe_bl)) pss_nil)
      (pss_one (ps_ret (pe_and (pe_cmpR op_eq (pe_lenSetS rfl rfl T.len rfl T.set (pv 0)) (pe_callB call_len_str (by rfl) T.len PySem.boot_len (pa_cons (pv 0) pa_nil)) (nomark _))
        (pe_one (pe_callB (cr_all rfl) (by rfl) T.all (by decide +kernel) (pa_cons (pe_lc (own := [("character", 1)]) (g := gName 1) (tt := tYes) rfl nd (pi_str (pv 0)) (blkOk_by (N := ["value", "character"]) (sc := defScope sIsChoice) (by decide +kernel)) (fun _ _ _ _ _ => pg_name (i := 1) nd rfl (Or.inl rfl)) (fun _ _ _ _ _ => pts_nil)
          (fun _ _ _ _ _ => pe_cl G hr (by decide) rfl (pa_cons (pv 1) pa_nil))) pa_nil)))))), ?_⟩
    refine ⟨_, rfl, _, _, _, _, true, rfl, .ty "str", .base (.str _), kit_ty (by decide +kernel), true, rfl, ?_⟩
    refine iteF ⟨_, rfl, _, rfl, by rw [S_len, sizeLine_eq]; omega, _, _, rfl, rfl, _, rfl, ?_⟩
    rw [S_len, decide_eq_true (show (1 : Int) ≤ (cs.length : Nat) by omega)]
    refine iteT ⟨_, _, rfl, rfl, _, rfl, ?_⟩
    rw [decide_eq_true (show ((cs.length : Nat) : Int) ≤ 10 by omega)]
    refine iteF ?_
    refine ⟨_, rfl, S cs, rfl, ?_, h3, by show cs.length ≤ 1000; omega, _, rfl, _, rfl, by rw [S_len, sizeLine_eq]; omega, rfl, _, rfl, ?_⟩
    · rw [← Array.all_toList, List.all_eq_true]
      exact fun c hc => decide_eq_true (CH_lt c (h4 c hc))
    rw [S_len, decide_eq_true rfl]
    refine iteT ⟨_, rfl, _, rfl, fun D hD => lc_vals (fun c => V.bl (isChr [c])) (by omega) hD (fun c H2 acc Nx hc' k2 hacc hal nx => ⟨rfl, _, rfl, [c], rfl, by simp, acc, hacc, hal, nx _ upd_same (k2.new hD)⟩) fun H2 e2 k2 => ?_⟩
    refine ⟨D, cs.map (fun c => isChr [c]), rfl, SqL.of (by rw [List.map_map]; exact e2), ?_⟩
    have e : (cs.map (fun c => isChr [c])).all id = true := by
      rw [List.all_map, List.all_eq_true]
      exact fun c hc => isChr_one (h4 c hc)
    rw [e]
    exact q H2 k2
theorem ok_isStep {f : Addr} {fd : FuncData} (F : Fun K "is_step" "is_step" sIsStep f fd) (T : Nms mg) (C : Cst mg) (G : Cl P w K mg base 1 "is_character" spIsChar) (G2 : Cl P w K mg base 2 "_is_choice" spIsChoice) (G3 : Cl P w K mg base 1 "is_integer" spIsInt) : FnOk P w K mg base CX0 3 f fd ["value"] spIsStep := by
  refine F.ok scIsStep (fun vs H Q E h => ?_) (fun cdv A outer s H vs Q E hr h => ?_)
  · obtain ⟨p, st, rfl, _⟩ := h
    rfl
  · obtain ⟨p, st, rfl, hst, hok, q⟩ := h
    have nd := scIsStep.nd
    obtain ⟨tc, hc⟩ := C.cut
    refine ⟨_, pss_cons (ps_if (PW.pt (pw_or (pt_not (pt_val (pe_callB call_isi (by rfl) T.isi (by decide +kernel) (pa_cons (pv 0) (pa_cons (pe_bltn (v := .ty "tuple") (by rfl) T.tuple (by decide +kernel) rfl) pa_nil)))))
        (pw_or (pt_cmpR op_eq (pe_callB call_len_seq (by rfl) T.len PySem.boot_len (pa_cons (pv 0) pa_nil)) pe_int (nomark _))
        (pw_or1 (pt_not (pt_val (pe_callB call_isi (by rfl) T.isi (by decide +kernel) (pa_cons (pe_ix ix_tup (pv 0) pe_int (fun _ _ => rfl)) (pa_cons (pe_bltn (v := .ty "str") (by rfl) T.str (by decide +kernel) rfl) pa_nil))))))))) (pss_one (ps_ret pe_bl)) pss_nil)
      (pss_cons (ps_set (i := 1) nd rfl (Or.inl rfl) (pe_ix ix_tup (pv 0) pe_int (fun _ _ => rfl)))
      (pss_cons (ps_if (pt_cmpR op_eq (pv 1) pe_str (nomark _)) (pss_one (ps_ret (pe_cmpR op_eq (pe_callB call_len_seq (by rfl) T.len PySem.boot_len (pa_cons (pv 0) pa_nil)) pe_int (nomark _)))) pss_nil)
      (pss_cons (ps_if (pt_cmpR op_eq (pv 1) pe_str (nomark _)) (pss_one (ps_ret (pe_and (pe_cmpR op_eq (pe_callB call_len_seq (by rfl) T.len PySem.boot_len (pa_cons (pv 0) pa_nil)) pe_int (nomark _))
        (pe_and (pe_cl G hr (by decide) rfl (pa_cons (pe_ix ix_tup (pv 0) pe_int (fun _ _ => rfl)) pa_nil)) (pe_one (pe_cl G hr (by decide) rfl (pa_cons (pe_ix ix_tup (pv 0) pe_int (fun _ _ => rfl)) pa_nil))))))) pss_nil)
      (pss_cons (ps_if (pt_cmpR op_ne (pe_callB call_len_seq (by rfl) T.len PySem.boot_len (pa_cons (pv 0) pa_nil)) pe_int (nomark _)) (pss_one (ps_ret pe_bl)) pss_nil)
      (pss_cons (ps_if (pt_cmpR op_eq (pv 1) pe_str (nomark _)) (pss_one (ps_ret (pe_cl G2 hr (by decide) rfl (pa_cons (pe_ix ix_tup (pv 0) pe_int (fun _ _ => rfl)) pa_nil)))) pss_nil)
      (pss_cons (ps_if (PW.pt (pw_or (pt_cmpR op_eq (pv 1) pe_str (nomark _)) (pw_or1 (pt_cmpR op_eq (pv 1) pe_str (nomark _))))) (pss_one (ps_ret (pe_cl G hr (by decide) rfl (pa_cons (pe_ix ix_tup (pv 0) pe_int (fun _ _ => rfl)) pa_nil)))) pss_nil)
      (pss_one (ps_ret (pe_and (pe_cmpR op_eq (pv 1) pe_str (nomark _)) (pe_and (pe_cl G3 hr (by decide) rfl (pa_cons (pe_ix ix_tup (pv 0) pe_int (fun _ _ => rfl)) pa_nil))
        (pe_one (pe_chain op_le op_le pe_int (pe_ix ix_tup (pv 0) pe_int (fun _ _ => rfl)) (pe_glob (v := .int 9) rfl hc ⟨_, rfl⟩))))))))))))), ?_⟩
    have hs : ∀ {K : PySem.W.Frag}, SqT K H p (stpVals st) := hst.seq
    have e0 : decide (V.int (((stpVals st).length : Nat) : Int) = V.int 0) = false := by cases st <;> rfl
    refine ⟨_, rfl, _, _, _, _, true, rfl, .ty "tuple", hst.ty, kit_ty (by decide +kernel), true, rfl, ?_⟩
    refine iteF ⟨_, rfl, p, _, rfl, .inr hs, rfl, _, rfl, ?_⟩
    rw [e0]
    refine iteF ⟨_, rfl, p, _, 0, _, rfl, rfl, hs, word_at st, _, _, _, _, true, rfl, .ty "str", .base (.str _), kit_ty (by decide +kernel), true, rfl, ?_⟩
    refine iteF ⟨_, rfl, p, _, 0, _, rfl, rfl, hs, word_at st, ?_⟩
    cases st with
    | low =>
      refine ⟨_, rfl, rfl, _, rfl, ite2 (fun _ => ?_) (fun h => absurd (decide_eq_true rfl) h)⟩
      exact ⟨_, rfl, p, _, rfl, .inr hs, rfl, q H .refl⟩
    | swap a b =>
      refine ⟨_, rfl, rfl, _, rfl, ite2 (fun h => absurd (show V.str "swap" = V.str "lower" from of_decide_eq_true h) (by decide +kernel)) (fun _ => ?_)⟩
      refine ⟨_, rfl, rfl, _, rfl, ite2 (fun _ => ?_) (fun h => absurd (decide_eq_true rfl) h)⟩
      refine ⟨_, rfl, p, _, rfl, .inr hs, rfl, true, rfl, iteT ⟨_, rfl, p, _, 1, .str (sg a), rfl, rfl, hs, rfl, [a], rfl, by simp, true, ?_, iteT ⟨_, rfl, p, _, 2, .str (sg b), rfl, rfl, hs, rfl, [b], rfl, by simp, ?_⟩⟩⟩
      · rw [isChr_one hok.1]
      · rw [isChr_one hok.2]; exact q H .refl
    | drop cs =>
      refine ⟨_, rfl, rfl, _, rfl, ite2 (fun h => absurd (show V.str "drop" = V.str "lower" from of_decide_eq_true h) (by decide +kernel)) (fun _ => ?_)⟩
      refine ⟨_, rfl, rfl, _, rfl, ite2 (fun h => absurd (show V.str "drop" = V.str "swap" from of_decide_eq_true h) (by decide +kernel)) (fun _ => ?_)⟩
      refine ⟨_, rfl, p, _, rfl, .inr hs, rfl, _, rfl, iteF ?_⟩
      refine ⟨_, rfl, rfl, _, rfl, ite2 (fun _ => ?_) (fun h => absurd (decide_eq_true rfl) h)⟩
      exact ⟨_, rfl, p, _, 1, .str (S cs), rfl, rfl, hs, rfl, cs, rfl, hok, q⟩
    | lead a =>
      refine ⟨_, rfl, rfl, _, rfl, ite2 (fun h => absurd (show V.str "lead" = V.str "lower" from of_decide_eq_true h) (by decide +kernel)) (fun _ => ?_)⟩
      refine ⟨_, rfl, rfl, _, rfl, ite2 (fun h => absurd (show V.str "lead" = V.str "swap" from of_decide_eq_true h) (by decide +kernel)) (fun _ => ?_)⟩
      refine ⟨_, rfl, p, _, rfl, .inr hs, rfl, _, rfl, iteF ?_⟩
      refine ⟨_, rfl, rfl, _, rfl, ite2 (fun h => absurd (show V.str "lead" = V.str "drop" from of_decide_eq_true h) (by decide +kernel)) (fun _ => ?_)⟩
      refine ⟨_, rfl, rfl, _, rfl, iteT ?_⟩
      refine ⟨_, rfl, p, _, 1, .str (sg a), rfl, rfl, hs, rfl, [a], rfl, by simp, ?_⟩
      rw [isChr_one hok]; exact q H .refl
    | once a =>
      refine ⟨_, rfl, rfl, _, rfl, ite2 (fun h => absurd (show V.str "once" = V.str "lower" from of_decide_eq_true h) (by decide +kernel)) (fun _ => ?_)⟩
      refine ⟨_, rfl, rfl, _, rfl, ite2 (fun h => absurd (show V.str "once" = V.str "swap" from of_decide_eq_true h) (by decide +kernel)) (fun _ => ?_)⟩
      refine ⟨_, rfl, p, _, rfl, .inr hs, rfl, _, rfl, iteF ?_⟩
      refine ⟨_, rfl, rfl, _, rfl, ite2 (fun h => absurd (show V.str "once" = V.str "drop" from of_decide_eq_true h) (by decide +kernel)) (fun _ => ?_)⟩
      refine ⟨_, rfl, rfl, _, rfl, ite2 (fun h => absurd (show V.str "once" = V.str "lead" from of_decide_eq_true h) (by decide +kernel)) (fun _ => ?_)⟩
      refine ⟨_, rfl, rfl, _, rfl, iteT ?_⟩
      refine ⟨_, rfl, p, _, 1, .str (sg a), rfl, rfl, hs, rfl, [a], rfl, by simp, ?_⟩
      rw [isChr_one hok]; exact q H .refl
    | cut n =>
      refine ⟨_, rfl, rfl, _, rfl, ite2 (fun h => absurd (show V.str "cut" = V.str "lower" from of_decide_eq_true h) (by decide +kernel)) (fun _ => ?_)⟩
      refine ⟨_, rfl, rfl, _, rfl, ite2 (fun h => absurd (show V.str "cut" = V.str "swap" from of_decide_eq_true h) (by decide +kernel)) (fun _ => ?_)⟩
      refine ⟨_, rfl, p, _, rfl, .inr hs, rfl, _, rfl, iteF ?_⟩
      refine ⟨_, rfl, rfl, _, rfl, ite2 (fun h => absurd (show V.str "cut" = V.str "drop" from of_decide_eq_true h) (by decide +kernel)) (fun _ => ?_)⟩
      refine ⟨_, rfl, rfl, _, rfl, ite2 (fun h => absurd (show V.str "cut" = V.str "lead" from of_decide_eq_true h) (by decide +kernel)) (fun _ => ?_)⟩
      refine ⟨_, rfl, rfl, _, rfl, ite2 (fun h => absurd (show V.str "cut" = V.str "once" from of_decide_eq_true h) (by decide +kernel)) (fun _ => ?_)⟩
      refine ⟨_, rfl, rfl, true, rfl, iteT ⟨_, rfl, p, _, 1, .int (n : Nat), rfl, rfl, hs, rfl, _, rfl, true, rfl, iteT ?_⟩⟩
      have e1 : decide ((1 : Int) ≤ (n : Nat)) = true := decide_eq_true (by have := hok.1; omega)
      have e2 : decide (((n : Nat) : Int) ≤ 9) = true := decide_eq_true (by have := hok.2; omega)
      refine ⟨_, rfl, p, _, 1, .int (n : Nat), rfl, rfl, hs, rfl, _, _, rfl, rfl, true, ?_, iteT ⟨_, _, rfl, rfl, ?_⟩⟩
      · exact congrArg V.bl e1
      · show Q (V.bl (decide (((n : Nat) : Int) ≤ 9))) H
        rw [e2]; exact q H .refl
end
end Pd

set_option maxHeartbeats 4000000
namespace Pd
open PySem PySem.Spec PyProof.Rows L2 SX
/-! ### text.replace(step[1], step[2]), step any name of the def -/
theorem item_rawV {X : Cx} {pins : List (Addr × Obj)} {σ : L2.St} {H : Hp} {s : Shared} {i : Nat} {x : Str} {p : Addr} {its : Array Value} {k : Int} {j : Nat} {w : Value} {p1 cp pos : Pos} {Q : Value → Shared → Prop} (hN : X.N[i]? = some x)
    (hv : Vis X.env.scope x) (I : Inv X pins σ H s) (hσ : σ[i]? = some (some (.ref p))) (ht : ∀ s', Inv X pins σ H s' → s'.heap.IsTuple p its) (h0 : 0 ≤ k) (h1 : k < its.size) (hz : its.size ≤ 1000) (hw : its[k.toNat]? = some w) (fin : ∀ s', Inv X pins σ H s' → Q w s')
    (hs : PlainIx (.Constant (.int k) j cp)) (hd : (x == ("__debug__" : Str)) = false := by decide) (hcd : (x == ("__classdict__" : Str)) = false := by decide) :
    wpAny (model X.prog X.w) X.A (eval (.Subscript (.Name x p1) (.Constant (.int k) j cp) pos) X.env) Q X.xe s := by
  refine Subscript_ (thn ((pe_var (pos := p1) hN hv hd hcd).run pins s σ H (fun v H1 => v = .ref p ∧ H1 = H) I ⟨.ref p, hσ, rfl, rfl⟩) ?_)
  rintro u s1 ⟨v, H1, I1, r1, e1, e2⟩
  subst e1 e2
  obtain rfl : u = Value.ref p := r1
  refine wpAny_Constant_int ?_
  have I2 := I1.tok (s1.toks + 1)
  exact subscriptTail_builtinR (x := w) (ht _ I2).typeIs slot_tuple_getitem.lookup
    (getItem_tuple (j := k.toNat) (Q := fun r s' => r = w ∧ Q r s') (ht _ I2) (by omega) (by omega) (by rw [seqIndex_of h0 h1]) hw ⟨rfl, fin _ I2⟩) (hs _ _)
/-- no token is booked, by what K tells of the statics -/
theorem nb_of {K : PySem.W.Frag} {mg : Str → Option Value} {base : Heap} (M : L2.Mod K mg base) (z : PySem.W.nsIn K cStatics sharingNotToldKey = some none) : NoneBooked base := by
  obtain ⟨mc, hn, _⟩ := M.nolimit
  refine ⟨mc, hn, ?_⟩
  obtain ⟨o, es, ep, e1, e2, _, e3⟩ := hn
  rw [← e3]
  unfold PySem.W.nsIn at z
  cases hl : K.lookup cStatics with
  | none => rw [hl] at z; cases z
  | some ob =>
    have e4 := M.kin _ _ hl
    rw [e1] at e4
    injection e4 with e4
    subst e4
    obtain ⟨cls, dict, data, sl⟩ := o
    replace e2 : data = .dict es ep := e2
    subst e2
    rw [hl] at z
    cases hf : es.toList.find? (·.key.isStr sharingNotToldKey) with
    | some en => simp [hf] at z
    | none =>
      show nsFind es sharingNotToldKey = none
      unfold nsFind findBy
      rw [← Array.find?_toList, hf]
      rfl
theorem pe_replV {X : Cx} {i : Nat} {kx : Str} {o : Expr} {to : TE} {j0 j1 : Nat} {p2 p3 c0 c1 q0 q1 apos pos : Pos} (nb : PySem.W.nsIn X.K cStatics sharingNotToldKey = some none) (ho : PE X o to) (hN : X.N[i]? = some kx) (hv : Vis X.env.scope kx) (hd : (kx == ("__debug__" : Str)) = false := by decide)
    (hcd : (kx == ("__classdict__" : Str)) = false := by decide)
    (hst : starEach [.Subscript (.Name kx p2) (.Constant (.int 1) j0 c0) q0, .Subscript (.Name kx p3) (.Constant (.int 2) j1 c1) q1] X.env =
      [(false, eval (.Subscript (.Name kx p2) (.Constant (.int 1) j0 c0) q0) X.env), (false, eval (.Subscript (.Name kx p3) (.Constant (.int 2) j1 c1) q1) X.env)] := by rfl)
    (hbase : attributeBase o "replace" X.env (eval o X.env) = eval o X.env := by rfl) (hline : (apos.endLine == pos.line) = true := by rfl) :
    PE X (.Call (.Attribute o "replace" apos) [.Subscript (.Name kx p2) (.Constant (.int 1) j0 c0) q0, .Subscript (.Name kx p3) (.Constant (.int 2) j1 c1) q1] [] pos) (tRepl to i) := by
  constructor
  intro pins s σ H Q I h
  refine PySem.Call_method2 hbase hst hline (thn (ho.run pins s σ H _ I h) ?_)
  rintro v s1 ⟨y, H1, I1, r1, x, p, a, b, rfl, hσ, ⟨n, t0, t, u, hp, ht, hu, htu⟩, hz, q⟩
  obtain ⟨tx, rfl⟩ := r1
  have tup : ∀ s', Inv X pins σ H1 s' → s'.heap.IsTuple p #[.str "swap" t0, .str a t, .str b u] := fun s' I' => ⟨_, (I'.hok p _ hp).1, rfl, n, rfl⟩
  refine ⟨"str", _, F.plainAttrs_str, F.slot_str_replace, F.type_str_replace, typeIs_str _ _ _, (fun _ e => nomatch e), Calls.callWith_builtin rfl (Calls.evalArgs_plain (Calls.spliced_cons ?_))⟩
  refine item_rawV hN hv I1 hσ tup (by decide) (by show (1:Int) < ((3:Nat):Int); decide) (by show 3 ≤ 1000; decide) rfl (fun s2 I2 => ?_) (fun _ _ => rfl) hd hcd
  refine Calls.spliced_cons (item_rawV hN hv I2 hσ tup (by decide) (by show (2:Int) < ((3:Nat):Int); decide) (by show 3 ≤ 1000; decide) rfl (fun s3 I3 => Calls.spliced_nil ?_) (fun _ _ => rfl) hd hcd)
  exact replace_all (unbooked (nb_of I3.ok.mod nb) I3) ht hu htu hz fun t' k => ⟨.str (Txt.replace x a b), H1, I3.tok k, ⟨t', rfl⟩, q⟩
/-! ### the texts' methods, on lists of signs -/
theorem good_lt {l : List Nat} (h : Good l) : l.all (· < 128) = true := List.all_eq_true.mpr fun c hc => decide_eq_true (CH_lt c (h.1 c hc))
theorem lower_mk {l : List Nat} (h : Good l) : Txt.lower (S l) = S (mk .low l) := lower_S (good_lt h)
theorem replL_one (a b : Nat) : ∀ l : List Nat, PySem.StrLaws.replL [a] [b] l = l.map (swapC a b)
  | [] => PySem.StrLaws.replL_nil
  | c :: r => by
    have ih := replL_one a b r
    by_cases h : c = a
    · rw [PySem.StrLaws.replL_hit (by simp) (by simp [h])]
      show [b] ++ PySem.StrLaws.replL [a] [b] r = swapC a b c :: r.map (swapC a b)
      rw [ih]
      have e : swapC a b c = b := by unfold swapC; rw [if_pos h]
      rw [e]; rfl
    · rw [PySem.StrLaws.replL_miss (by simp [h]), ih]
      have e : swapC a b c = c := by unfold swapC; rw [if_neg h]
      rw [List.map_cons, e]
theorem replace_mk (a b : Nat) (l : List Nat) : Txt.replace (S l) (sg a) (sg b) = S (mk (.swap a b) l) := by
  refine TL.ext_tl ?_
  have e := PySem.StrLaws.replace_list (x := S l) (y := sg a) (z := sg b) (Nat.le_refl 1)
  refine e.trans ?_
  exact replL_one a b l
theorem drop_takeWhile (p : Nat → Bool) : ∀ l : List Nat, l.drop (l.takeWhile p).length = l.dropWhile p
  | [] => rfl
  | c :: r => by
    by_cases h : p c = true
    · rw [List.takeWhile_cons_of_pos h, List.dropWhile_cons_of_pos h, List.length_cons, List.drop_succ_cons]; exact drop_takeWhile p r
    · rw [List.takeWhile_cons_of_neg h, List.dropWhile_cons_of_neg h]; rfl
theorem lstrip_mk (a : Nat) (l : List Nat) : Txt.lstripChars (S l) (sg a) = S (mk (.lead a) l) := by
  refine TL.ext_tl ?_
  have e : Txt.lstripChars (S l) (sg a) = Builtin.Str.strSub (S l) (stripLo (sg a).cps.contains true (S l)) (stripHi (sg a).cps.contains false (S l) (stripLo (sg a).cps.contains true (S l))) := stripBy_eq _ _ _ _
  have hc : (sg a).cps.contains = fun c => decide (c = a) := by
    funext c
    show (#[a] : Array Nat).contains c = _
    by_cases h : c = a
    · simp [h]
    · simp [h]
  rw [e, TL.tl_strSub, hc]
  show (l.drop (l.takeWhile fun c => decide (c = a)).length).take ((S l).length - (l.takeWhile fun c => decide (c = a)).length) = l.dropWhile (fun c => decide (c = a))
  rw [S_len, List.take_of_length_le (by rw [List.length_drop]; omega), drop_takeWhile]
theorem onceN_filter (a : Nat) (l : List Nat) : ∀ n : Nat, onceN a l n = ((List.range n).filter (keepAt a l)).map (fun i => l.getD i 0)
  | 0 => rfl
  | n + 1 => by
    rw [onceN, onceN_filter a l n, List.range_succ, List.filter_append, List.map_append]
    congr 1
    by_cases h : keepAt a l n = true
    · simp [h]
    · simp [h]
end Pd

set_option maxHeartbeats 4000000
namespace Pd
open PySem PySem.Spec PyProof.Rows L2 SX
def spOnce : Sp := fun vs H Q _ => ∃ (l : List Nat) (a : Nat), vs = [.str (S l), .str (sg a)] ∧ Good l ∧ ∀ H', Ext H H' → Q (.str (S (onceL a l))) H'
theorem S_item {l : List Nat} {i : Nat} (hi : i < l.length) : atI (S l).cps.toList (i : Int) = some (l.getD i 0) := by
  refine atI_nat ?_
  show l[i]? = _
  rw [List.getElem?_eq_getElem hi]
  simp only [List.getD, List.getElem?_eq_getElem hi, Option.getD_some]
section
variable {P : Program} {w : World} {K : PySem.W.Frag} {mg : Str → Option Value} {base : Heap}
theorem ok_once {f : Addr} {fd : FuncData} (F : Fun K "_once" "_once" sOnce f fd) (T : Nms mg) : FnOk P w K mg base CX0 1 f fd ["text", "single"] spOnce := by
  refine F.ok scOnce (fun vs H Q E h => ?_) (fun cdv A outer s H vs Q E hr h => ?_)
  · obtain ⟨l, a, rfl, _⟩ := h
    rfl
  · obtain ⟨l, a, rfl, hG, q⟩ := h
    have nd := scOnce.nd
    refine ⟨_, pss_cons (ps_setLc (i := 2) (own := [("at", 3)]) (g := gName 3) rfl nd rfl rfl (sw_true rfl rfl rfl (by decide +kernel)) (pi_range1 rfl T.range (pa_cons (pe_callB call_len_str (by rfl) T.len PySem.boot_len (pa_cons (pv 0) pa_nil)) pa_nil))
        (blkOk_by (N := ["text", "single", "kept", "at"]) (sc := defScope sOnce) (by decide +kernel)) (fun _ _ _ _ _ => pg_name (i := 3) nd rfl (Or.inl rfl))
        (fun _ _ _ _ _ => pts_one (PW.pt (pw_or (pt_cmpR op_ne (pe_ix ix_str (pv 0) (pv 3) (fun _ _ => rfl)) (pv 1) (nomark _)) (pw_or (pt_cmpR op_eq (pv 3) pe_int (nomark _)) (pw_or1 (pt_cmpR op_ne (pe_ix ix_str (pv 0) (pe_op op_sub (pv 3) pe_int) (fun _ _ => rfl)) (pv 1) (nomark _)))))))
        (fun _ _ _ _ _ => pv 3))
      (pss_one (ps_ret (pe_join pe_str (pe_lc (own := [("at", 3)]) (g := gName 3) (tt := tYes) rfl nd (pi_list (pv 2)) (blkOk_by (N := ["text", "single", "kept", "at"]) (sc := defScope sOnce) (by decide +kernel)) (fun _ _ _ _ _ => pg_name (i := 3) nd rfl (Or.inl rfl)) (fun _ _ _ _ _ => pts_nil)
        (fun _ _ _ _ _ => pe_ix ix_str (pv 0) (pv 3) (fun _ _ => rfl)))))), ?_⟩
    have hl := hG.2
    refine ⟨_, rfl, _, rfl, by rw [S_len, sizeLine_eq]; omega, _, rfl, by rw [S_len]; omega, by rw [S_len]; omega, fun D hD => ?_⟩
    rw [show (((S l).length : Nat) : Int).toNat = l.length by rw [S_len]; omega]
    have ne2 : ∀ {x y : Nat}, V.str (sg x) = V.str (sg y) ↔ x = y := fun {x y} => sg_eq
    refine lc_it (walk_range (lo := 0) (n := l.length)) (fun i H' => H' D = some (.lst (((List.range i).filter (keepAt a l)).map fun k => V.int (k : Nat))) ∧ Ext H H') ⟨upd_same, Ext.refl.new hD⟩ (fun _ _ _ _ => trivial) ?_ ?_
    · rintro i x H2 H3 hi ⟨h2, k2⟩ ⟨rfl, rfl⟩
      have e0 : (0 : Int) + (i : Nat) = (i : Nat) := by omega
      show gName 3 (V.int (0 + (i : Nat))) _ _ _
      rw [e0]
      refine ⟨rfl, _, rfl, _, rfl, _, _, _, rfl, rfl, by rw [S_len, sizeLine_eq]; omega, S_item hi, _, rfl, rfl, _, rfl, ?_⟩
      have hlen : (((List.range i).filter (keepAt a l)).map fun k => V.int (k : Nat)).length < sizeLine := by
        rw [List.length_map, sizeLine_eq]
        have := List.length_filter_le (keepAt a l) (List.range i)
        rw [List.length_range] at this
        omega
      have yes : keepAt a l i = true → ∃ v, ([some (V.str (S l)), some (V.str (sg a)), none, some (V.int (i : Nat))] : L2.St)[3]? = some (some v) ∧ ∃ acc, H3 D = some (.lst acc) ∧ acc.length < sizeLine ∧
          ((L2.upd H3 D (.lst (acc ++ [v]))) D = some (.lst (((List.range (i + 1)).filter (keepAt a l)).map fun k => V.int (k : Nat))) ∧ Ext H (L2.upd H3 D (.lst (acc ++ [v])))) := fun hk => by
        refine ⟨_, rfl, _, h2, hlen, ?_, k2.new hD⟩
        rw [upd_same, List.range_succ, List.filter_append, List.map_append]
        simp [hk]
      by_cases h1 : l.getD i 0 = a
      · have e1 : (!decide (V.str (sg (l.getD i 0)) = V.str (sg a))) = false := by rw [decide_eq_true (ne2.mpr h1)]; rfl
        show if (!decide (V.str (sg (l.getD i 0)) = V.str (sg a))) = true then _ else _
        rw [e1]
        refine iteF ⟨_, rfl, rfl, _, rfl, ?_⟩
        by_cases h0 : i = 0
        · subst h0
          refine iteT (iteT (yes ?_))
          simp [keepAt]
        · rw [decide_eq_false (show ¬ V.int ((i : Nat) : Int) = V.int 0 from fun h => h0 (by injection h with h; omega))]
          have e3 : ((i : Nat) : Int) - 1 = ((i - 1 : Nat) : Int) := by omega
          refine iteF ⟨_, rfl, _, rfl, _, _, rfl, rfl, _, _, l.getD (i - 1) 0, rfl, rfl, by rw [S_len, sizeLine_eq]; omega, by rw [e3]; exact S_item (by omega), _, rfl, rfl, _, rfl, ?_⟩
          by_cases h4 : l.getD (i - 1) 0 = a
          · have e4 : (!decide (V.str (sg (l.getD (i - 1) 0)) = V.str (sg a))) = false := by rw [decide_eq_true (ne2.mpr h4)]; rfl
            show if (!decide (V.str (sg (l.getD (i - 1) 0)) = V.str (sg a))) = true then _ else _
            rw [e4]
            refine iteF ⟨?_, k2⟩
            have hk : keepAt a l i = false := by
              simp only [keepAt, Bool.or_eq_false_iff, decide_eq_false_iff_not, Decidable.not_not]
              exact ⟨⟨h1, h0⟩, h4⟩
            rw [h2, List.range_succ, List.filter_append]
            simp [hk]
          · have e4 : (!decide (V.str (sg (l.getD (i - 1) 0)) = V.str (sg a))) = true := by rw [decide_eq_false (fun h => h4 (ne2.mp h))]; rfl
            show if (!decide (V.str (sg (l.getD (i - 1) 0)) = V.str (sg a))) = true then _ else _
            rw [e4]
            refine iteT (yes ?_)
            simp only [keepAt, Bool.or_eq_true, decide_eq_true_eq]
            exact .inr h4
      · have e1 : (!decide (V.str (sg (l.getD i 0)) = V.str (sg a))) = true := by rw [decide_eq_false (fun h => h1 (ne2.mp h))]; rfl
        show if (!decide (V.str (sg (l.getD i 0)) = V.str (sg a))) = true then _ else _
        rw [e1]
        refine iteT (iteT (yes ?_))
        simp only [keepAt, Bool.or_eq_true, decide_eq_true_eq]
        exact .inl (.inl h1)
    · rintro H2 ⟨h2, k2⟩
      generalize hks : (List.range l.length).filter (keepAt a l) = ks at h2
      have hkl : ∀ k ∈ ks, k < l.length := fun k hk => by
        rw [← hks] at hk
        exact List.mem_range.mp (List.mem_filter.mp hk).1
      have hkn : ks.length ≤ l.length := by
        rw [← hks]
        have := List.length_filter_le (keepAt a l) (List.range l.length)
        rw [List.length_range] at this
        exact this
      refine ⟨⟨_, rfl⟩, _, rfl, D, rfl, ⟨_, SqL.of h2⟩, fun D2 hD2 => ?_⟩
      refine lc_it (walk_list (xs := ks.map fun k => V.int (k : Nat))) (fun i H' => H' D2 = some (.lst (((((ks.take i).map fun k => l.getD k 0)).map sg).map V.str)) ∧ Ext H2 H') ⟨upd_same, Ext.refl.new hD2⟩ (fun i H' _ p => SqL.of (p.2 D _ h2)) ?_ ?_
      · rintro i x H3 H4 hi ⟨h3, k3⟩ ⟨rfl, hx⟩
        rw [List.length_map] at hi
        rw [List.getElem?_map, List.getElem?_eq_getElem hi] at hx
        obtain rfl : V.int ((ks[i] : Nat) : Int) = x := Option.some.inj hx
        have hk : ks[i] < l.length := hkl _ (List.getElem_mem hi)
        refine ⟨rfl, _, rfl, _, rfl, _, _, _, rfl, rfl, by rw [S_len, sizeLine_eq]; omega, S_item hk, _, h3, ?_, ?_, k3.new hD2⟩
        · rw [List.length_map, List.length_map, List.length_map, sizeLine_eq]
          have := List.length_take_le' i ks
          omega
        · rw [upd_same, List.take_succ, List.getElem?_eq_getElem hi, Option.toList_some, List.map_append, List.map_append, List.map_append]
          rfl
      · rintro H3 ⟨h3, k3⟩
        rw [List.length_map, List.take_length] at h3
        refine join_ask h3 (by rw [List.length_map]; omega) ?_
        have e : (ks.map fun k => l.getD k 0) = onceL a l := by
          show _ = onceN a l l.length
          rw [onceN_filter, hks]
        rw [e]
        exact q H3 (k2.trans k3)
end
end Pd

set_option maxHeartbeats 4000000
namespace Pd
open PySem PySem.Spec PyProof.Rows L2 SX
/-! ### rows of steps -/
inductive Al (H : Hp) : List Addr → List Stp → Prop where
  | nil : Al H [] []
  | cons {p : Addr} {st : Stp} {ps : List Addr} {sts : List Stp} (h : StpAt H p st) (ok : st.ok) (r : Al H ps sts) : Al H (p :: ps) (st :: sts)
theorem Al.same {H H' : Hp} : ∀ {ps : List Addr} {sts : List Stp}, Al H ps sts → (∀ p ∈ ps, ∀ o, H p = some o → H' p = some o) → Al H' ps sts
  | _, _, .nil, _ => .nil
  | _, _, .cons h ok r, k => .cons (h.same fun o x => k _ (List.mem_cons_self ..) o x) ok (r.same fun p hp => k p (List.mem_cons_of_mem _ hp))
theorem Al.len {H : Hp} : ∀ {ps : List Addr} {sts : List Stp}, Al H ps sts → ps.length = sts.length
  | _, _, .nil => rfl
  | _, _, .cons _ _ r => congrArg (· + 1) r.len
theorem Al.get {H : Hp} : ∀ {ps : List Addr} {sts : List Stp} {i : Nat} {p : Addr}, Al H ps sts → ps[i]? = some p → ∃ st, sts[i]? = some st ∧ StpAt H p st ∧ st.ok
  | _, _, _, _, .nil, e => by simp at e
  | _, _, 0, _, .cons h ok r, e => by
    simp at e; subst e
    exact ⟨_, by simp, h, ok⟩
  | _, _, i + 1, _, .cons h ok r, e => by
    obtain ⟨st, e1, h1⟩ := r.get (i := i) (by simpa using e)
    exact ⟨st, by simpa using e1, h1⟩
theorem Al.mem {H : Hp} : ∀ {ps : List Addr} {sts : List Stp} {p : Addr}, Al H ps sts → p ∈ ps → ∃ st, StpAt H p st
  | _, _, _, .nil, h => nomatch h
  | _, _, _, .cons h ok r, hp => by
    rcases List.mem_cons.mp hp with rfl | hp
    · exact ⟨_, h⟩
    · exact r.mem hp
theorem Al.ext {H H' : Hp} {ps : List Addr} {sts : List Stp} (h : Al H ps sts) (k : Ext H H') : Al H' ps sts := h.same fun p _ o x => k p o x
theorem Al.kp {H H' : Hp} {j : Addr} {ps : List Addr} {sts : List Stp} {xs : List V} (h : Al H ps sts) (k : Kp j H H') (hj : H j = some (.lst xs)) : Al H' ps sts := h.same fun p hp o x => by
  obtain ⟨st, hst⟩ := h.mem hp
  obtain ⟨o', x', ne⟩ := hst.some
  refine k p o ?_ x
  rintro rfl
  rw [hj] at x'; cases x'
  exact ne _ rfl
theorem sqT_keep {K : PySem.W.Frag} {H H' : Hp} {a : Addr} {xs : List V} (h : SqT K H a xs) (k : ∀ o, H a = some o → H' a = some o) : SqT K H' a xs := by
  rcases h with (h | ⟨o, h⟩) | h
  · exact .inl (.inl (k _ h))
  · exact .inl (.inr ⟨o, k _ h⟩)
  · exact .inr h
theorem sqT_ty {K : PySem.W.Frag} {H : Hp} {a : Addr} {xs : List V} (h : SqT K H a xs) : TyX K H (.ref a) (.type "tuple") := by
  rcases h with (h | ⟨o, h⟩) | ⟨o, its, n, h, c, _⟩
  · exact .base (.tup h)
  · exact .fTuple h
  · exact .kTuple h c
theorem sqT_noLst {K : PySem.W.Frag} {H H' : Hp} {j a : Addr} {xs ys : List V} (h : SqT K H a xs) (k : Kp j H H') (hj : H j = some (.lst ys)) : SqT K H' a xs := by
  rcases h with (h | ⟨o, h⟩) | h
  · exact .inl (.inl (k a _ (by rintro rfl; rw [h] at hj; cases hj) h))
  · exact .inl (.inr ⟨o, k a _ (by rintro rfl; rw [h] at hj; cases hj) h⟩)
  · exact .inr h
def RowAt (K : PySem.W.Frag) (H : Hp) (r : Addr) (sts : List Stp) : Prop := ∃ ps : List Addr, SqT K H r (ps.map V.ref) ∧ Al H ps sts
section
variable {K : PySem.W.Frag}
theorem RowAt.ext {H H' : Hp} {r : Addr} {sts : List Stp} (h : RowAt K H r sts) (k : Ext H H') : RowAt K H' r sts := by
  obtain ⟨ps, e, a⟩ := h
  exact ⟨ps, sqT_keep e (fun o x => k r o x), a.ext k⟩
theorem RowAt.kp {H H' : Hp} {j r : Addr} {sts : List Stp} {xs : List V} (h : RowAt K H r sts) (k : Kp j H H') (hj : H j = some (.lst xs)) : RowAt K H' r sts := by
  obtain ⟨ps, e, a⟩ := h
  exact ⟨ps, sqT_noLst e k hj, a.kp k hj⟩
end
def mks (sts : List Stp) (l : List Nat) : List Nat := sts.foldl (fun l st => mk st l) l
theorem mks_good {l : List Nat} : ∀ {sts : List Stp}, (∀ st ∈ sts, st.ok) → Good l → Good (mks sts l) := by
  intro sts
  induction sts generalizing l with
  | nil => exact fun _ h => h
  | cons st sts ih => exact fun h g => ih (fun s hs => h s (List.mem_cons_of_mem _ hs)) (mk_good (h st (List.mem_cons_self ..)) g)
theorem Al.ok {H : Hp} : ∀ {ps : List Addr} {sts : List Stp}, Al H ps sts → ∀ st ∈ sts, st.ok
  | _, _, .nil, _, h => nomatch h
  | _, _, .cons _ ok r, st, h => by
    rcases List.mem_cons.mp h with rfl | h
    · exact ok
    · exact r.ok st h
theorem mks_take {sts : List Stp} {i : Nat} {st : Stp} (l : List Nat) (h : sts[i]? = some st) : mks (sts.take (i + 1)) l = mk st (mks (sts.take i) l) := by
  rw [List.take_succ, h]
  show ((sts.take i) ++ [st]).foldl (fun l st => mk st l) l = _
  rw [List.foldl_append]
  rfl
def spMadeSteps (K : PySem.W.Frag) : Sp := fun vs H Q _ => ∃ (r : Addr) (sts : List Stp) (l : List Nat), vs = [.ref r, .str (S l)] ∧ RowAt K H r sts ∧ Good l ∧ ∀ H', Ext H H' → Q (.str (S (mks sts l))) H'
section
variable {P : Program} {w : World} {K : PySem.W.Frag} {mg : Str → Option Value} {base : Heap}
theorem ok_madeByStep {f : Addr} {fd : FuncData} (F : Fun K "made_by_step" "made_by_step" sMadeByStep f fd) (T : Nms mg) (nb : PySem.W.nsIn K cStatics sharingNotToldKey = some none) (G : Cl P w K mg base 1 "_once" spOnce) : FnOk P w K mg base CX0 2 f fd ["step", "text"] spMade := by
  refine F.ok scMadeByStep (fun vs H Q E h => ?_) (fun cdv A outer s H vs Q E hr h => ?_)
  · obtain ⟨p, st, l, rfl, _⟩ := h
    rfl
  · obtain ⟨p, st, l, rfl, hst, hok, hG, q⟩ := h
    have nd := scMadeByStep.nd
    refine ⟨_, pss_cons (ps_set (i := 2) nd rfl (Or.inl rfl) (pe_ix ix_tup (pv 0) pe_int (fun _ _ => rfl)))
      (pss_cons (ps_if (pt_cmpR op_eq (pv 2) pe_str (nomark _)) (pss_one (ps_ret (pe_lower (pv 1)))) pss_nil)
      (pss_cons (ps_if (pt_cmpR op_eq (pv 2) pe_str (nomark _)) (pss_one (ps_ret (pe_replV (i := 0) nb (pv 1) rfl (.inr (.inl rfl))))) pss_nil)
      (pss_cons (ps_if (pt_cmpR op_eq (pv 2) pe_str (nomark _)) (pss_one (ps_ret (pe_join pe_str
        (pe_lc (own := [("character", 3)]) (g := gName 3) rfl nd (pi_str (pv 1)) (blkOk_by (N := ["step", "text", "name", "character"]) (sc := defScope sMadeByStep) (by decide +kernel)) (fun _ _ _ _ _ => pg_name (i := 3) nd rfl (Or.inl rfl)) (fun _ _ _ _ _ => pts_one (pt_cmpR op_notIn_sign (pv 3) (pe_ix (ix_tupK (K := K) rfl) (pv 0) pe_int (fun _ _ => rfl)) rfl))
          (fun _ _ _ _ _ => pv 3))))) pss_nil)
      (pss_cons (ps_if (pt_cmpR op_eq (pv 2) pe_str (nomark _)) (pss_one (ps_ret (pe_m1 PySem.F.slot_str_lstrip PySem.F.type_str_lstrip mt_lstripChars (pv 1) (pe_ix ix_tup (pv 0) pe_int (fun _ _ => rfl))))) pss_nil)
      (pss_cons (ps_if (pt_cmpR op_eq (pv 2) pe_str (nomark _)) (pss_one (ps_ret (pe_cl G hr (by decide) rfl (pa_cons (pv 1) (pa_cons (pe_ix ix_tup (pv 0) pe_int (fun _ _ => rfl)) pa_nil))))) pss_nil)
      (pss_one (ps_ret (pe_slice C8.sl_txt (pv 1) po_none (po_some (pe_ix ix_tup (pv 0) pe_int (fun _ _ => rfl))))))))))),?_⟩
    have hl60 := hG.2
    refine ⟨_, rfl, p, stpVals st, 0, .str (wordOf st), rfl, rfl, hst.seq, word_at st, ?_⟩
    have in0 : ∀ {c : Nat} {H' : Hp}, Ext H H' → SqT K H' p (stpVals st) := fun k => (hst.ext k).seq
    cases st with
    | low =>
      refine ⟨_, rfl, rfl, _, rfl, ite2 (fun _ => ?_) (fun h => absurd (decide_eq_true rfl) h)⟩
      refine ⟨_, rfl, ⟨_, rfl⟩, _, rfl, rfl, by rw [S_len]; omega, ?_⟩
      rw [lower_mk hG]
      exact q H .refl
    | swap a b =>
      refine ⟨_, rfl, rfl, _, rfl, ite2 (fun h => absurd (show V.str "swap" = V.str "lower" from of_decide_eq_true h) (by decide +kernel)) (fun _ => ?_)⟩
      refine ⟨_, rfl, rfl, _, rfl, ite2 (fun _ => ?_) (fun h => absurd (decide_eq_true rfl) h)⟩
      refine ⟨_, rfl, S l, p, sg a, sg b, rfl, rfl, hst, ?_, ?_⟩
      · have e : (sg b).length = 1 := rfl
        rw [S_len, e]; omega
      · rw [replace_mk]
        exact q H .refl
    | drop cs =>
      refine ⟨_, rfl, rfl, _, rfl, ite2 (fun h => absurd (show V.str "drop" = V.str "lower" from of_decide_eq_true h) (by decide +kernel)) (fun _ => ?_)⟩
      refine ⟨_, rfl, rfl, _, rfl, ite2 (fun h => absurd (show V.str "drop" = V.str "swap" from of_decide_eq_true h) (by decide +kernel)) (fun _ => ?_)⟩
      refine ⟨_, rfl, rfl, _, rfl, ite2 (fun _ => ?_) (fun h => absurd (decide_eq_true rfl) h)⟩
      refine ⟨⟨_, rfl⟩, _, rfl, _, rfl, fun D' hD => lc_text (fun c => if c ∉ cs then some c else none) (by omega) hD (fun c H2 acc Nx hc k2 hacc hal nx => ⟨rfl, ?_⟩) fun H2 h2 k2 => ?_⟩
      · refine ⟨_, rfl, _, rfl, p, _, 1, .str (S cs), rfl, rfl, in0 (c := 0) k2, rfl, c, S cs, rfl, rfl, _, rfl, ?_⟩
        show if (!decide (c ∈ cs)) = true then _ else _
        by_cases hc : c ∈ cs
        · rw [decide_eq_true hc]
          refine iteF (nx H2 ?_ k2)
          rw [if_neg (fun h => h hc)]
          show H2 D' = some (.lst (acc ++ []))
          rw [List.append_nil]; exact hacc
        · rw [decide_eq_false hc]
          refine iteT ⟨_, rfl, acc, hacc, hal, nx _ ?_ (k2.new hD)⟩
          rw [if_pos hc]; exact upd_same
      · rw [← mk_drop] at h2
        exact join_ask h2 (Nat.le_trans (mk_len _ l) (by omega)) (q H2 k2)
    | lead a =>
      refine ⟨_, rfl, rfl, _, rfl, ite2 (fun h => absurd (show V.str "lead" = V.str "lower" from of_decide_eq_true h) (by decide +kernel)) (fun _ => ?_)⟩
      refine ⟨_, rfl, rfl, _, rfl, ite2 (fun h => absurd (show V.str "lead" = V.str "swap" from of_decide_eq_true h) (by decide +kernel)) (fun _ => ?_)⟩
      refine ⟨_, rfl, rfl, _, rfl, ite2 (fun h => absurd (show V.str "lead" = V.str "drop" from of_decide_eq_true h) (by decide +kernel)) (fun _ => ?_)⟩
      refine ⟨_, rfl, rfl, _, rfl, ite2 (fun _ => ?_) (fun h => absurd (decide_eq_true rfl) h)⟩
      refine ⟨_, rfl, ⟨_, rfl⟩, _, rfl, p, _, 1, .str (sg a), rfl, rfl, in0 (c := 0) .refl, rfl, _, _, rfl, rfl, by rw [S_len, sizeLine_eq]; omega, ?_⟩
      rw [lstrip_mk]
      exact q H .refl
    | once a =>
      refine ⟨_, rfl, rfl, _, rfl, ite2 (fun h => absurd (show V.str "once" = V.str "lower" from of_decide_eq_true h) (by decide +kernel)) (fun _ => ?_)⟩
      refine ⟨_, rfl, rfl, _, rfl, ite2 (fun h => absurd (show V.str "once" = V.str "swap" from of_decide_eq_true h) (by decide +kernel)) (fun _ => ?_)⟩
      refine ⟨_, rfl, rfl, _, rfl, ite2 (fun h => absurd (show V.str "once" = V.str "drop" from of_decide_eq_true h) (by decide +kernel)) (fun _ => ?_)⟩
      refine ⟨_, rfl, rfl, _, rfl, ite2 (fun h => absurd (show V.str "once" = V.str "lead" from of_decide_eq_true h) (by decide +kernel)) (fun _ => ?_)⟩
      refine ⟨_, rfl, rfl, _, rfl, ite2 (fun _ => ?_) (fun h => absurd (decide_eq_true rfl) h)⟩
      exact ⟨_, rfl, _, rfl, p, _, 1, .str (sg a), rfl, rfl, in0 (c := 0) .refl, rfl, l, a, rfl, hG, q⟩
    | cut n =>
      refine ⟨_, rfl, rfl, _, rfl, ite2 (fun h => absurd (show V.str "cut" = V.str "lower" from of_decide_eq_true h) (by decide +kernel)) (fun _ => ?_)⟩
      refine ⟨_, rfl, rfl, _, rfl, ite2 (fun h => absurd (show V.str "cut" = V.str "swap" from of_decide_eq_true h) (by decide +kernel)) (fun _ => ?_)⟩
      refine ⟨_, rfl, rfl, _, rfl, ite2 (fun h => absurd (show V.str "cut" = V.str "drop" from of_decide_eq_true h) (by decide +kernel)) (fun _ => ?_)⟩
      refine ⟨_, rfl, rfl, _, rfl, ite2 (fun h => absurd (show V.str "cut" = V.str "lead" from of_decide_eq_true h) (by decide +kernel)) (fun _ => ?_)⟩
      refine ⟨_, rfl, rfl, _, rfl, ite2 (fun h => absurd (show V.str "cut" = V.str "once" from of_decide_eq_true h) (by decide +kernel)) (fun _ => ?_)⟩
      refine ⟨_, rfl, _, rfl, p, _, 1, .int (n : Nat), rfl, rfl, in0 (c := 0) .refl, rfl, _, rfl, _, rfl, by rw [S_len, sizeLine_eq]; omega, ?_⟩
      rw [slice_to (by omega)]
      exact q H .refl
theorem ok_madeBySteps {f : Addr} {fd : FuncData} (F : Fun K "made_by_steps" "made_by_steps" sMadeBySteps f fd) (G : Cl P w K mg base 2 "made_by_step" spMade) : FnOk P w K mg base CX0 3 f fd ["steps", "text"] (spMadeSteps K) := by
  refine F.ok scMadeBySteps (fun vs H Q E h => ?_) (fun cdv A outer s H vs Q E hr h => ?_)
  · obtain ⟨p, st, l, rfl, _⟩ := h
    rfl
  · obtain ⟨r, sts, l, rfl, ⟨ps, hr0, al⟩, hG, q⟩ := h
    have nd := scMadeBySteps.nd
    refine ⟨_, pss_cons (ps_for PassesOwn.never rfl (pi_tup (pv 0)) (pg_name (i := 2) nd rfl (Or.inl rfl)) (pss_one (ps_set (i := 1) nd rfl (Or.inl rfl) (pe_cl G hr (by decide) rfl (pa_cons (pv 2) (pa_cons (pv 1) pa_nil)))))) (pss_one (ps_ret (pv 1))), ?_⟩
    refine ⟨_, rfl, r, rfl, ⟨_, hr0⟩, for_it (walk_tup (xs := ps.map V.ref)) (fun i σ H' => ∃ u, σ = [some (.ref r), some (.str (S (mks (sts.take i) l))), u] ∧ Ext H H') ⟨none, by rw [List.take_zero]; rfl, .refl⟩ (fun i σ H' _ p => by
      obtain ⟨u, _, k⟩ := p
      exact sqT_keep hr0 (fun o x => k r o x)) ?_ ?_⟩
    · rintro i x σ H2 H3 hi ⟨u, rfl, k2⟩ ⟨rfl, hx⟩
      rw [List.getElem?_map] at hx
      obtain ⟨p, hp, rfl⟩ := Option.map_eq_some_iff.mp hx
      obtain ⟨st, e, hst, ok⟩ := al.get hp
      have gd : Good (mks (sts.take i) l) := mks_good (fun s hs => al.ok s (List.mem_of_mem_take hs)) hG
      refine ⟨_, rfl, _, rfl, p, st, _, rfl, hst.ext k2, ok, gd, fun H4 k4 => ⟨some (.ref p), ?_, k2.trans k4⟩⟩
      rw [mks_take l e]
      rfl
    · rintro σ H2 ⟨u, rfl, k2⟩
      refine ⟨_, rfl, ?_⟩
      rw [List.length_map, al.len, List.take_length]
      exact q H2 k2
end
end Pd

set_option maxHeartbeats 4000000
namespace Pd
open PySem PySem.Spec PyProof.Rows L2 SX
/-- a folding at o: its steps' tuple at r -/
def FoldAt (K : PySem.W.Frag) (C : Addr) (H : Hp) (o r : Addr) (sts : List Stp) : Prop := (∃ dx, H o = some (.ins C dx [("_steps", .ref r)])) ∧ RowAt K H r sts ∧ sts.length ≤ 6
theorem FoldAt.ext {K : PySem.W.Frag} {C : Addr} {H H' : Hp} {o r : Addr} {sts : List Stp} (h : FoldAt K C H o r sts) (k : Ext H H') : FoldAt K C H' o r sts := by
  obtain ⟨⟨dx, e⟩, a, l⟩ := h
  exact ⟨⟨dx, k o _ e⟩, a.ext k, l⟩
theorem FoldAt.kp {K : PySem.W.Frag} {C : Addr} {H H' : Hp} {j o r : Addr} {sts : List Stp} {xs : List V} (h : FoldAt K C H o r sts) (k : Kp j H H') (hj : H j = some (.lst xs)) : FoldAt K C H' o r sts := by
  obtain ⟨⟨dx, e⟩, a, l⟩ := h
  exact ⟨⟨dx, k o _ (by rintro rfl; rw [e] at hj; cases hj) e⟩, a.kp k hj, l⟩
theorem StpAt.noIns {H : Hp} {p : Addr} {st : Stp} (h : StpAt H p st) {C : Addr} {dx : Addr} {fs : List (Str × V)} (e : H p = Option.some (.ins C dx fs)) : False := by
  cases st with
  | swap a b =>
    obtain ⟨n, t0, t, u, e', _⟩ := h
    rw [e] at e'; cases e'
  | low => rw [show H p = _ from h] at e; cases e
  | drop _ => rw [show H p = _ from h] at e; cases e
  | lead _ => rw [show H p = _ from h] at e; cases e
  | once _ =>
    rcases h with h | ⟨o, h⟩
    · rw [h] at e; cases e
    · rw [h] at e; cases e
  | cut _ => rw [show H p = _ from h] at e; cases e
/-- what the program asks of the class -/
structure Fcl (K : PySem.W.Frag) (mg : Str → Option Value) (C : Addr) : Prop where
  cl : Cls K C
  nS : NoAttr K C "_steps"
  mgC : mg "Folding" = some (.ref C)
theorem sqT_noIns {K : PySem.W.Frag} {H H' : Hp} {o a C dx : Addr} {xs : List V} {fs : List (Str × V)} (h : SqT K H a xs) (ho : H o = some (.ins C dx fs)) (k : ∀ b u, b ≠ o → H b = some u → H' b = some u) : SqT K H' a xs := by
  rcases h with (h | ⟨u, h⟩) | h
  · exact .inl (.inl (k a _ (by rintro rfl; rw [h] at ho; cases ho) h))
  · exact .inl (.inr ⟨u, k a _ (by rintro rfl; rw [h] at ho; cases ho) h⟩)
  · exact .inr h
def spFInit (K : PySem.W.Frag) (C : Addr) : Sp := fun vs H Q _ => ∃ (o dx r : Addr) (sts : List Stp), vs = [.ref o, .ref r] ∧ H o = some (.ins C dx []) ∧ RowAt K H r sts ∧ sts.length ≤ 6 ∧
  ∀ H', FoldAt K C H' o r sts → (∀ b u, b ≠ o → H b = some u → H' b = some u) → Q .non H'
def spFCall (K : PySem.W.Frag) (C : Addr) : Sp := fun vs H Q _ => ∃ (o r : Addr) (sts : List Stp) (l : List Nat), vs = [.ref o, .str (S l)] ∧ FoldAt K C H o r sts ∧ Good l ∧ ∀ H', Ext H H' → Q (.str (S (mks sts l))) H'
section
variable {P : Program} {w : World} {K : PySem.W.Frag} {mg : Str → Option Value} {base : Heap}
theorem ok_finit {f Cf : Addr} {fd : FuncData} {dvs : List V} (F : FunD K "__init__" "Folding.__init__" (defArgs sFoldingInit) (defBody sFoldingInit) (defScope sFoldingInit) dvs [] f fd) (T : Nms mg) (C : Cst mg) (Z : Fcl K mg Cf) (G : Cl P w K mg base 3 "is_step" spIsStep) :
    FnOk P w K mg base CX0 4 f fd ["self", "steps"] (spFInit K Cf) := by
  refine F.ok scFoldingInit (fun vs H Q E h => ?_) (fun cdv A outer s H vs Q E hr h => ?_)
  · obtain ⟨o, dx, r, sts, rfl, _⟩ := h
    rfl
  · obtain ⟨o, dx, r, sts, rfl, ho, ⟨ps, hr0, al⟩, h6, q⟩ := h
    have nd := scFoldingInit.nd
    obtain ⟨t6, hm⟩ := C.steps
    refine ⟨_, PSs.nox (pss_cons (ps_if (pt_not (pt_val (pe_callB call_isi (by rfl) T.isi (by decide +kernel) (pa_cons (pv 1) (pa_cons (pe_bltn (v := .ty "tuple") (by rfl) T.tuple (by decide +kernel) rfl) pa_nil))))) pss_never pss_nil)
      (pss_cons (ps_for PassesOwn.never rfl (pi_enumT (by rfl) T.enum (pa_cons (pv 1) pa_nil)) (pg_tup (by rfl) (pgs_cons (pg_name (i := 2) nd rfl (Or.inl rfl)) (pgs_cons (pg_name (i := 3) nd rfl (Or.inl rfl)) pgs_nil)))
        (pss_one (ps_if (PW.pt (pw_or (pt_cmpR op_ge (pv 2) (pe_glob (v := .int 6) rfl hm ⟨_, rfl⟩) (nomark _)) (pw_or1 (pt_not (pt_val (pe_cl G hr (by decide) rfl (pa_cons (pv 3) pa_nil))))))) pss_never pss_nil)))
      (pss_one (ps_fld (pv 0) (pv 1) rfl)))), ?_⟩
    refine ⟨_, rfl, _, _, _, _, true, rfl, .ty "tuple", sqT_ty hr0, kit_ty (by decide +kernel), true, rfl, iteF ?_⟩
    refine ⟨_, rfl, r, _, rfl, hr0, for_it (walk_enumT (xs := ps.map V.ref)) (fun i σ H' => ∃ u v, σ = [some (.ref o), some (.ref r), u, v] ∧ Ext H H') ⟨none, none, rfl, .refl⟩ (fun i σ H' _ p => by
      obtain ⟨u, v, _, k⟩ := p
      exact sqT_keep hr0 (fun o x => k r o x)) ?_ ?_⟩
    · rintro i x σ H2 H3 hi ⟨u, v, rfl, k2⟩ ⟨Ta, x1, y1, rfl, hT, rfl, e1, e2⟩
      obtain rfl := Option.some.inj e1
      rw [List.length_map] at hi
      replace e2 : (ps.map V.ref)[i]? = some y1 := e2
      rw [List.getElem?_map] at e2
      obtain ⟨p, hp, rfl⟩ := Option.map_eq_some_iff.mp e2
      obtain ⟨st, es, hst, ok⟩ := al.get hp
      have k3 : Ext H (L2.upd H2 Ta (.tup [V.int (i : Nat), V.ref p])) := fun b ob hb => by
        rw [upd_ne (ne_of_none (k2 b ob hb) hT)]; exact k2 b ob hb
      have i6 : i < 6 := by have := al.len; omega
      refine ⟨Ta, _, rfl, SqT.of upd_same, rfl, _, _, rfl, _, _, rfl, rfl, ?_⟩
      refine ⟨_, rfl, _, _, rfl, rfl, _, rfl, ?_⟩
      rw [decide_eq_false (show ¬ ((i : Nat) : Int) ≥ 6 by omega)]
      refine iteF ⟨_, rfl, p, st, rfl, hst.ext k3, ok, fun H4 k4 => ⟨true, rfl, iteF ⟨some (.int (i : Nat)), some (.ref p), rfl, k3.trans k4⟩⟩⟩
    · rintro σ H2 ⟨u, v, rfl, k2⟩
      refine ⟨_, rfl, _, rfl, o, Cf, dx, [], rfl, k2 o _ ho, Z.cl, Z.nS, (by show 0 < 1000; decide), ?_⟩
      have no : ∀ b u, b ≠ o → H b = some u → (L2.upd H2 o (.ins Cf dx (putF "_steps" (V.ref r) []))) b = some u := fun b u n e => by rw [upd_ne n]; exact k2 b u e
      refine q (L2.upd H2 o (.ins Cf dx (putF "_steps" (V.ref r) []))) ⟨⟨dx, upd_same⟩, ⟨ps, sqT_noIns hr0 ho no, al.same fun p hp ob e => no p ob ?_ e⟩, h6⟩ no
      rintro rfl
      obtain ⟨st, hst⟩ := al.mem hp
      exact hst.noIns ho
theorem ok_fcall {f Cf : Addr} {fd : FuncData} (F : Fun K "__call__" "Folding.__call__" sFoldingCall f fd) (T : Nms mg) (Z : Fcl K mg Cf) (G : Cl P w K mg base 1 "is_text" spIsText) (G2 : Cl P w K mg base 3 "made_by_steps" (spMadeSteps K)) :
    FnOk P w K mg base CX0 4 f fd ["self", "text"] (spFCall K Cf) := by
  refine F.ok scFoldingCall (fun vs H Q E h => ?_) (fun cdv A outer s H vs Q E hr h => ?_)
  · obtain ⟨o, r, sts, l, rfl, _⟩ := h
    rfl
  · obtain ⟨o, r, sts, l, rfl, hF, hG, q⟩ := h
    have nd := scFoldingCall.nd
    refine ⟨_, pss_cons (ps_if (pt_not (pt_val (pe_cl G hr (by decide) rfl (pa_cons (pv 1) pa_nil)))) pss_never pss_nil)
      (pss_one (ps_ret (pe_cl G2 hr (by decide) rfl (pa_cons (pe_fld (pv 0) rfl) (pa_cons (pv 1) pa_nil))))), ?_⟩
    refine ⟨_, rfl, l, rfl, by have := hG.2; omega, fun H2 k2 => ⟨_, rfl, ?_⟩⟩
    rw [goodB_of hG]
    refine iteF ?_
    obtain ⟨⟨dx, e⟩, hR, h6⟩ := hF.ext k2
    exact ⟨_, rfl, o, Cf, dx, _, _, rfl, e, Z.cl, Z.nS, rfl, _, rfl, r, sts, l, rfl, hR, hG, fun H3 k3 => q H3 (k2.trans k3)⟩
end
end Pd

set_option maxHeartbeats 4000000
namespace Pd
open PySem PySem.Spec PyProof.Rows L2 SX
theorem sqL_keep {K : PySem.W.Frag} {H H' : Hp} {a : Addr} {xs : List V} (h : SqL K H a xs) (k : ∀ o, H a = some o → H' a = some o) : SqL K H' a xs := by
  rcases h with (h | ⟨o, h⟩) | h
  · exact .inl (.inl (k _ h))
  · exact .inl (.inr ⟨o, k _ h⟩)
  · exact .inr h
theorem JarAt.ext {H H' : Hp} {j : Addr} {n : Nat} (h : JarAt H j n) (k : Ext H H') : JarAt H' j n := by
  obtain ⟨a, b, c, h1, r⟩ := h
  exact ⟨a, b, c, k j _ h1, r⟩
theorem SgnsAt.ext {H H' : Hp} {a : Addr} {gs : List Nat} (h : SgnsAt H a gs) (k : Ext H H') : SgnsAt H' a gs := by
  refine ⟨?_, h.len, h.ok⟩
  obtain ⟨its, n, m, q, e, r⟩ := h.at_
  exact ⟨its, n, m, q, k a _ e, r⟩
theorem FoldAt.ins {K : PySem.W.Frag} {X : Cx} {C : Addr} {H : Hp} {o r : Addr} {sts : List Stp} (h : FoldAt K C H o r sts) : StX.InsC X H o C := by
  obtain ⟨⟨dx, e⟩, _⟩ := h
  exact .inr ⟨dx, _, e⟩
theorem mks_one (st : Stp) (l : List Nat) : mks [st] l = mk st l := rfl
theorem ne_same {x : Str} {A B : Prop} (h : B) : if (!decide (V.str x = V.str x)) = true then A else B := by
  rw [decide_eq_true rfl]; exact h
theorem strS_eq {a b : List Nat} : V.str (S a) = V.str (S b) ↔ a = b := by
  constructor
  · intro h
    injection h with h
    exact SX.S_inj h
  · rintro rfl; rfl
theorem dec_S (a b : List Nat) : decide (V.str (S a) = V.str (S b)) = decide (a = b) := by
  by_cases h : a = b
  · rw [decide_eq_true h, decide_eq_true (strS_eq.mpr h)]
  · rw [decide_eq_false h, decide_eq_false (fun e => h (strS_eq.mp e))]
/-- a folding made of a row: what __init__ asks, and the heap behind it -/
theorem made_ask {K : PySem.W.Frag} {C : Addr} {H : Hp} {r x dx : Addr} {sts : List Stp} {Q : VK} {E : XK} (hR : RowAt K H r sts) (h6 : sts.length ≤ 6) (hx : H x = none) (hdx : H dx = none) (ne : dx ≠ x) (q : ∀ H', FoldAt K C H' x r sts → Ext H H' → Q .non H') :
    spFInit K C [.ref x, V.ref r] (upd (upd H dx (.own x)) x (.ins C dx [])) Q E := by
  have k : Ext H (upd (upd H dx (.own x)) x (.ins C dx [])) := fun b u e => by
    rw [upd_ne (ne_of_none e hx), upd_ne (ne_of_none e hdx)]; exact e
  exact ⟨x, dx, r, sts, rfl, upd_same, hR.ext k, h6, fun H' F k2 => q H' F fun b u e => k2 b u (ne_of_none e hx) (k b u e)⟩
/-- the class Folding: made by position, called by position -/
structure Fol (P : Program) (w : World) (K : PySem.W.Frag) (mg : Str → Option Value) (base : Heap) (C : Addr) : Prop where
  made : ∃ (f : Addr) (fd : FuncData), Mk K C f ∧ FnOk P w K mg base CX0 4 f fd ["self", "steps"] (spFInit K C) ∧ Binds K fd ["self", "steps"] []
  call : ∃ (g : Addr) (fd : FuncData), StX.CallO K C g ∧ FnOk P w K mg base CX0 4 g fd ["self", "text"] (spFCall K C) ∧ Binds K fd ["self", "text"] []
  mgC : mg "Folding" = some (.ref C)
def spRow (K : PySem.W.Frag) : Sp := fun vs H Q _ => ∃ (j a : Addr) (n : Nat) (gs : List Nat), vs = [.ref j, .ref a, .int 6] ∧ JarAt H j n ∧ SgnsAt H a gs ∧ n + 400 < 1000000 ∧
  ∀ r sts H', H r = none → sts.length ≤ 6 → RowAt K H' r sts → JarAt H' j (n + 400) → Kp j H H' → Q (.ref r) H'
def spFIn (K : PySem.W.Frag) (C : Addr) : Sp := fun vs H Q _ => ∃ (o r : Addr) (sts : List Stp) (l : List Nat), vs = [.ref o, .str (S l)] ∧ FoldAt K C H o r sts ∧ Good l ∧ ∀ H', Ext H H' → Q (.bl (decide (mks sts l = l))) H'
section
variable {P : Program} {w : World} {K : PySem.W.Frag} {mg : Str → Option Value} {base : Heap}
theorem ok_fin {f Cf : Addr} {fd : FuncData} (F : Fun K "__contains__" "Folding.__contains__" sFoldingContains f fd) (T : Nms mg) (Z : Fcl K mg Cf) (G : Cl P w K mg base 1 "is_text" spIsText) (G2 : Cl P w K mg base 3 "made_by_steps" (spMadeSteps K)) :
    FnOk P w K mg base CX0 4 f fd ["self", "x"] (spFIn K Cf) := by
  refine F.ok scFoldingContains (fun vs H Q E h => ?_) (fun cdv A outer s H vs Q E hr h => ?_)
  · obtain ⟨o, r, sts, l, rfl, _⟩ := h
    rfl
  · obtain ⟨o, r, sts, l, rfl, hF, hG, q⟩ := h
    refine ⟨_, pss_one (ps_ret (pe_and (pe_cl G hr (by decide) rfl (pa_cons (pv 1) pa_nil)) (pe_one (pe_cmpR op_eq (pe_cl G2 hr (by decide) rfl (pa_cons (pe_fld (pv 0) rfl) (pa_cons (pv 1) pa_nil))) (pv 1) (nomark _))))), ?_⟩
    refine ⟨_, rfl, l, rfl, by have := hG.2; omega, fun H2 k2 => ⟨_, rfl, ?_⟩⟩
    rw [goodB_of hG]
    refine iteT ?_
    obtain ⟨⟨dx, e⟩, hR, h6⟩ := hF.ext k2
    refine ⟨_, rfl, o, Cf, dx, _, _, rfl, e, Z.cl, Z.nS, rfl, _, rfl, r, sts, l, rfl, hR, hG, fun H3 k3 => ⟨_, rfl, rfl, ?_⟩⟩
    rw [dec_S]
    exact q H3 (k2.trans k3)
end
end Pd

set_option maxHeartbeats 4000000
namespace Pd
open PySem PySem.Spec PyProof.Rows L2 SX
theorem atI_S {l : List Nat} {i : Nat} {c : Nat} (h : l[i]? = some c) : atI (S l).cps.toList (i : Int) = some c := atI_nat h
theorem Al.snoc {H : Hp} {p : Addr} {st : Stp} (hp : StpAt H p st) (ok : st.ok) : ∀ {ps : List Addr} {sts : List Stp}, Al H ps sts → Al H (ps ++ [p]) (sts ++ [st])
  | _, _, .nil => .cons hp ok .nil
  | _, _, .cons h o r => .cons h o (r.snoc hp ok)
def spBrow (K : PySem.W.Frag) : Sp := fun vs H Q _ => ∃ (j : Addr) (n : Nat) (l : List Nat), vs = [.ref j, .str (S l)] ∧ JarAt H j n ∧ PoolOk l ∧ n + 400 < 1000000 ∧
  ∀ r sts H', H r = none → sts.length ≤ 6 → RowAt K H' r sts → JarAt H' j (n + 400) → Kp j H H' → Q (.ref r) H'
section
variable {P : Program} {w : World} {K : PySem.W.Frag} {mg : Str → Option Value} {base : Heap}
theorem ok_pool {f : Addr} {fd : FuncData} (F : Fun K "_law_pool" "_law_pool" sLawPool f fd) (T : Nms mg) (D : Cl P w K mg base 1 "_law_draw" spDraw) (C : Cl P w K mg base 1 "_law_chars" spChars) : FnOk P w K mg base CX0 2 f fd ["well"] spPool := by
  refine F.ok scLawPool (fun vs H Q E h => ?_) (fun cdv A outer s H vs Q E hr h => ?_)
  · obtain ⟨j, n, rfl, _⟩ := h
    rfl
  · obtain ⟨j, n, rfl, hJ, hn, q⟩ := h
    have nd := scLawPool.nd
    refine ⟨_, pss_cons (ps_asg (pe_tup (pa_cons (pe_cl0 C hr (by decide) rfl) (pa_cons (pe_cl D hr (by decide) rfl (pa_cons (pv 0) (pa_cons pe_int pa_nil))) pa_nil))) (pg_tup (by rfl) (pgs_cons (pg_name (i := 1) nd rfl (Or.inr rfl)) (pgs_cons (pg_name (i := 2) nd rfl (Or.inl rfl)) pgs_nil))))
      (pss_cons (ps_set (i := 3) nd rfl (Or.inl rfl) (pe_join pe_str (pe_lc (own := [("k", 4)]) (g := gName 4) (tt := tYes) rfl nd (pi_range1 rfl T.range (pa_cons pe_int pa_nil)) (blkOk_by (N := ["well", "chars", "letter", "more", "k"]) (sc := defScope sLawPool) (by decide +kernel)) (fun _ _ _ _ _ => pg_name (i := 4) nd rfl (Or.inl rfl)) (fun _ _ _ _ _ => pts_nil)
          (fun _ _ _ _ _ => pe_ix ix_str (pv 1) (pe_cl D hr (by decide) rfl (pa_cons (pv 0) (pa_cons pe_int pa_nil))) (fun _ _ => rfl)))))
      (pss_one (ps_ret (pe_op op_add_str (pe_op op_add_str (pe_ix ix_str (pv 1) (pv 2) (fun _ _ => rfl)) (pe_ix ix_str (pv 1) (pe_op op_add pe_int (pv 2)) (fun _ _ => rfl))) (pv 3))))), ?_⟩
    obtain ⟨xs0, hx0⟩ := hJ.lst
    refine ⟨rfl, _, rfl, j, 26, n, rfl, hJ, by omega, by decide, by decide, fun r H1 h0 h1 J1 k1 => ⟨by show 2 ≤ sizeLine; decide, fun t ht => ⟨t, _, rfl, SqT.of upd_same, rfl, _, _, rfl, _, _, rfl, rfl, ?_⟩⟩⟩
    have J1' := J1.new (o := .tup [V.str (S CH), V.int r]) ht
    have k1' : Kp j H (L2.upd H1 t (.tup [V.str (S CH), V.int r])) := k1.new ht
    refine ⟨⟨_, rfl⟩, 4, rfl, by decide, by decide, fun D1 hD => ?_⟩
    obtain ⟨xs1, hx1⟩ := J1'.lst
    have nDj : D1 ≠ j := fun e => by rw [e, hx1] at hD; cases hD
    refine lc_it (walk_range (lo := 0) (n := 4)) (fun i H' => ∃ m : List Nat, H' D1 = some (.lst ((m.map sg).map V.str)) ∧ m.length = i ∧ (∀ c ∈ m, c ∈ CH) ∧ JarAt H' j (n + 1 + i) ∧ Kp j H H')
      ⟨[], upd_same, rfl, (fun _ h => nomatch h), J1'.new hD, k1'.new hD⟩ (fun _ _ _ _ => trivial) ?_ ?_
    · rintro i x H2 H3 hi ⟨m, hD2, hl, hm, J2, k2⟩ ⟨rfl, rfl⟩
      refine ⟨rfl, _, rfl, _, rfl, j, 68, _, rfl, J2, by omega, by decide, by decide, fun r4 H4 h04 h14 J4 k4 => ?_⟩
      obtain ⟨c, hc, ec⟩ := CH_at h04 h14
      refine ⟨S CH, r4, c, rfl, rfl, by rw [S_len, CH_len, sizeLine_eq]; decide, ?_, ?_⟩
      · have e : ((r4.toNat : Nat) : Int) = r4 := by omega
        have z := atI_S (l := CH) (i := r4.toNat) (c := c) (by simpa [S] using ec)
        rw [e] at z
        exact z
      have hD4 : H4 D1 = some (.lst ((m.map sg).map V.str)) := k4 D1 _ nDj hD2
      refine ⟨_, hD4, by rw [List.length_map, List.length_map, hl, sizeLine_eq]; omega, m ++ [c], ?_, by rw [List.length_append, hl]; rfl, fun d hd => ?_, ?_, ?_⟩
      · rw [upd_same, List.map_append, List.map_append]; rfl
      · rcases List.mem_append.mp hd with h | h
        · exact hm d h
        · rw [List.mem_singleton.mp h]; exact hc
      · obtain ⟨a', b', c', e1, e2⟩ := J4.le (show n + 1 + i + 1 ≤ n + 1 + (i + 1) by omega)
        exact ⟨a', b', c', by rw [upd_ne nDj.symm]; exact e1, e2⟩
      · intro b o nb hb
        have nbD : b ≠ D1 := ne_of_none (k1' b o nb hb) hD
        rw [upd_ne nbD]; exact (k2.trans k4) b o nb hb
    · rintro H2 ⟨m, hD2, hl, hm, J2, k2⟩
      refine ⟨_, D1, m.map sg, rfl, rfl, .inl (SqL.of hD2), ?_, ?_⟩
      · rw [sum_sg, List.length_map]
        show m.length + m.length * 0 ≤ 16777216
        omega
      rw [join_sg]
      have hr : r.toNat < CH.length := by rw [CH_len]; omega
      have hr2 : (26 + r).toNat < CH.length := by rw [CH_len]; omega
      refine ⟨_, rfl, _, rfl, S CH, r, CH[r.toNat], rfl, rfl, by rw [S_len, CH_len, sizeLine_eq]; decide, ?_, _, rfl, _, rfl, _, _, rfl, rfl, ?_⟩
      · have e : ((r.toNat : Nat) : Int) = r := by omega
        have z := atI_S (l := CH) (i := r.toNat) (c := CH[r.toNat]) (by simp [hr])
        rw [e] at z
        exact z
      refine ⟨S CH, 26 + r, CH[(26 + r).toNat], rfl, rfl, by rw [S_len, CH_len, sizeLine_eq]; decide, ?_, _, _, rfl, rfl, by show 2 ≤ sizeLine; decide, _, rfl, _, _, rfl, rfl, ?_, ?_⟩
      · have e : (((26 + r).toNat : Nat) : Int) = 26 + r := by omega
        have z := atI_S (l := CH) (i := (26 + r).toNat) (c := CH[(26 + r).toNat]) (by simp [hr2])
        rw [e] at z
        exact z
      · show 2 + (S m).length ≤ sizeLine
        rw [S_len, hl, sizeLine_eq]; decide
      · show Q (.str (sg CH[r.toNat] ++ sg CH[(26 + r).toNat] ++ S m)) H2
        rw [sg_S, sg_S, S_cat, S_cat]
        refine q _ _ ⟨by rw [List.length_append, hl]; rfl, fun c hc => ?_⟩ (J2.le (by omega)) k2
        rcases List.mem_append.mp hc with h | h
        · rcases List.mem_append.mp h with h | h
          · rw [List.mem_singleton.mp h]; exact List.getElem_mem hr
          · rw [List.mem_singleton.mp h]; exact List.getElem_mem hr2
        · exact hm c h
theorem ok_bsteps {f : Addr} {fd : FuncData} (F : Fun K "_law_steps" "_law_steps" sLawSteps f fd) (T : Nms mg) (D : Cl P w K mg base 1 "_law_draw" spDraw) (G : Cl P w K mg base 3 "_law_step" spBstep) : FnOk P w K mg base CX0 4 f fd ["well", "pool"] (spBrow K) := by
  refine F.ok scLawSteps (fun vs H Q E h => ?_) (fun cdv A outer s H vs Q E hr h => ?_)
  · obtain ⟨j, n, l, rfl, _⟩ := h
    rfl
  · obtain ⟨j, n, l, rfl, hJ, hG, hn, q⟩ := h
    have nd := scLawSteps.nd
    refine ⟨_, pss_one (ps_ret (pe_callTy call_tuple_of (by rfl) T.tuple (by decide +kernel) (pa_cons (pe_lc (own := [("turn", 2)]) (g := gName 2) (tt := tYes) rfl nd
      (pi_range1 rfl T.range (pa_cons (pe_cl D hr (by decide) rfl (pa_cons (pv 0) (pa_cons pe_int pa_nil))) pa_nil)) (blkOk_by (N := ["well", "pool", "turn"]) (sc := defScope sLawSteps) (by decide +kernel)) (fun _ _ _ _ _ => pg_name (i := 2) nd rfl (Or.inl rfl)) (fun _ _ _ _ _ => pts_nil)
      (fun _ _ _ _ _ => pe_cl G hr (by decide) rfl (pa_cons (pv 0) (pa_cons (pv 1) pa_nil)))) pa_nil))), ?_⟩
    obtain ⟨xs0, hx0⟩ := hJ.lst
    refine ⟨_, rfl, j, 7, n, rfl, hJ, by omega, by decide, by decide, fun r H1 h0 h1 J1 k1 => ⟨_, rfl, by omega, by omega, fun D1 hD => ?_⟩⟩
    obtain ⟨xs1, hx1⟩ := J1.lst
    have nDj : D1 ≠ j := fun e => by rw [e, hx1] at hD; cases hD
    refine lc_it (walk_range (lo := 0) (n := r.toNat)) (fun i H' => ∃ (ps : List Addr) (sts : List Stp), H' D1 = some (.lst (ps.map V.ref)) ∧ Al H' ps sts ∧ sts.length = i ∧ JarAt H' j (n + 1 + 50 * i) ∧ Kp j H H')
      ⟨[], [], upd_same, .nil, rfl, J1.new hD, k1.new hD⟩ (fun _ _ _ _ => trivial) ?_ ?_
    · rintro i x H2 H3 hi ⟨ps, sts, hD2, al, hl, J2, k2⟩ ⟨rfl, rfl⟩
      obtain ⟨xs3, hx3⟩ := J2.lst
      refine ⟨rfl, _, rfl, _, rfl, j, _, l, rfl, J2, hG, by omega, fun p st H4 np ok hst J4 k4 => ?_⟩
      have hD4 : H4 D1 = some (.lst (ps.map V.ref)) := k4 D1 _ nDj hD2
      have kD : ∀ o, Kp D1 H4 (L2.upd H4 D1 o) := fun o => .upd
      refine ⟨_, hD4, by rw [List.length_map, al.len, sizeLine_eq]; omega, ps ++ [p], sts ++ [st], ?_, ?_, by rw [List.length_append, hl]; rfl, ?_, ?_⟩
      · rw [upd_same, List.map_append]; rfl
      · exact Al.snoc (hst.kp (kD _) hD4) ok ((al.kp k4 hx3).kp (kD _) hD4)
      · obtain ⟨a', b', c', e1, e2⟩ := J4.le (show n + 1 + 50 * i + 50 ≤ n + 1 + 50 * (i + 1) by omega)
        exact ⟨a', b', c', by rw [upd_ne nDj.symm]; exact e1, e2⟩
      · intro b o nb hb
        rw [upd_ne (ne_of_none (k1 b o nb hb) hD)]; exact (k2.trans k4) b o nb hb
    · rintro H2 ⟨ps, sts, hD2, al, hl, J2, k2⟩
      refine ⟨D1, _, rfl, .inl ⟨SqL.of hD2, fun t ht => ?_⟩⟩
      have kt : Ext H2 (L2.upd H2 t (.tup (ps.map V.ref))) := Ext.refl.new ht
      exact q t sts _ (k2.none ht ⟨_, hx0⟩ J2.lst) (by omega) ⟨ps, SqT.of upd_same, al.ext kt⟩ ((J2.ext kt).le (by omega)) (k2.trans kt.kp)
end
end Pd

set_option maxHeartbeats 4000000
namespace Pd
open PySem PySem.Spec PyProof.Rows L2 SX
theorem strOk_CH {l : List Nat} (h : ∀ c ∈ l, c ∈ CH) : PyData.strOk (S l) = true := by
  unfold PyData.strOk
  rw [← Array.all_toList, List.all_eq_true]
  exact fun c hc => decide_eq_true (Nat.lt_trans (CH_lt c (h c hc)) (by decide))
theorem Ext.new' {H H' : Hp} {D : Addr} {o : HO} (a : Ext H H') (h : H' D = none) : Ext H (upd H' D o) := fun b u e => by
  rw [upd_ne (ne_of_none (a b u e) h)]; exact a b u e
/-! ### steps as data -/
def stpData : Stp → PyData
  | .low => .tuple [.str "lower"]
  | .swap a b => .tuple [.str "swap", .str (sg a), .str (sg b)]
  | .drop cs => .tuple [.str "drop", .str (S cs)]
  | .lead a => .tuple [.str "lead", .str (sg a)]
  | .once a => .tuple [.str "once", .str (sg a)]
  | .cut n => .tuple [.str "cut", .int (n : Nat)]
theorem stp_dp {K : PySem.W.Frag} {H : Hp} {p : Addr} {st : Stp} (h : StpAt H p st) : Dp K H (.ref p) (stpData st) := by
  have e := h.seq (K := K)
  cases st with
  | low => exact .tup e (.cons (.str _) .nil)
  | swap a b => exact .tup e (.cons (.str _) (.cons (.str _) (.cons (.str _) .nil)))
  | drop cs => exact .tup e (.cons (.str _) (.cons (.str _) .nil))
  | lead a => exact .tup e (.cons (.str _) (.cons (.str _) .nil))
  | once a => exact .tup e (.cons (.str _) (.cons (.str _) .nil))
  | cut n => exact .tup e (.cons (.str _) (.cons (.int _) .nil))
theorem al_dp {K : PySem.W.Frag} {H : Hp} : ∀ {ps : List Addr} {sts : List Stp}, Al H ps sts → DpAll K H (ps.map V.ref) (sts.map stpData)
  | _, _, .nil => .nil
  | _, _, .cons h _ r => .cons (stp_dp h) (al_dp r)
theorem stp_shape {st : Stp} (ok : st.ok) : (stpData st).canLay0 = true ∧ (stpData st).depth = 1 := by
  have one : ∀ {c : Nat}, c ∈ CH → PyData.strOk (sg c) = true := fun {c} h => strOk_CH (l := [c]) fun x hx => by rw [List.mem_singleton.mp hx]; exact h
  have w : PyData.strOk "lower" = true ∧ PyData.strOk "swap" = true ∧ PyData.strOk "drop" = true ∧ PyData.strOk "lead" = true ∧ PyData.strOk "once" = true ∧ PyData.strOk "cut" = true := by decide +kernel
  cases st with
  | low => simp [stpData, PyData.canLay0, PyData.canLayAll0, PyData.depth, PyData.depthAll, w]
  | swap a b => simp [stpData, PyData.canLay0, PyData.canLayAll0, PyData.depth, PyData.depthAll, w, one ok.1, one ok.2]
  | drop cs => simp [stpData, PyData.canLay0, PyData.canLayAll0, PyData.depth, PyData.depthAll, w, strOk_CH ok.2.2.2]
  | lead a => simp [stpData, PyData.canLay0, PyData.canLayAll0, PyData.depth, PyData.depthAll, w, one ok]
  | once a => simp [stpData, PyData.canLay0, PyData.canLayAll0, PyData.depth, PyData.depthAll, w, one ok]
  | cut n => simp [stpData, PyData.canLay0, PyData.canLayAll0, PyData.depth, PyData.depthAll, w]
theorem row_shape {sts : List Stp} (ok : ∀ st ∈ sts, st.ok) : SeqAt.shaped (.tuple (sts.map stpData)) = true := by
  have key : PyData.canLayAll0 (sts.map stpData) = true ∧ PyData.depthAll (sts.map stpData) ≤ 1 := by
    induction sts with
    | nil => exact ⟨rfl, Nat.zero_le _⟩
    | cons st sts ih =>
      obtain ⟨h1, h2⟩ := ih fun s hs => ok s (List.mem_cons_of_mem _ hs)
      obtain ⟨h3, h4⟩ := stp_shape (ok st (List.mem_cons_self ..))
      refine ⟨?_, ?_⟩
      · rw [List.map_cons]; simp only [PyData.canLayAll0, h3, h1, Bool.and_self]
      · rw [List.map_cons]; simp only [PyData.depthAll, h4]; omega
  unfold SeqAt.shaped
  simp only [PyData.canLay0, PyData.depth, key.1, Bool.true_and]
  exact decide_eq_true (by have := key.2; omega)
theorem op_neDK {X : Cx} {K : PySem.W.Frag} (h : X.K = K) (hu : X.A.units + 64 < cLine) : OpR X (compareOp .NotEq) (rNeD K) := by
  subst h; exact op_neD hu
theorem ext_kp {j : Addr} {H1 H2 H3 : Hp} (a : Ext H1 H2) (b : Kp j H2 H3) (n : H1 j = none) : Ext H1 H3 := fun c o e => b c o (by rintro rfl; rw [e] at n; cases n) (a c o e)
/-- rows, and foldings of them -/
inductive Rw (K : PySem.W.Frag) (H : Hp) : List Addr → List (List Stp) → Prop where
  | nil : Rw K H [] []
  | cons {r : Addr} {sts : List Stp} {rs : List Addr} {rws : List (List Stp)} (h : RowAt K H r sts) (l : sts.length ≤ 6) (t : Rw K H rs rws) : Rw K H (r :: rs) (sts :: rws)
theorem Rw.ext {K : PySem.W.Frag} {H H' : Hp} : ∀ {rs : List Addr} {rws : List (List Stp)}, Rw K H rs rws → Ext H H' → Rw K H' rs rws
  | _, _, .nil, _ => .nil
  | _, _, .cons h l t, k => .cons (h.ext k) l (t.ext k)
theorem Rw.kp {K : PySem.W.Frag} {H H' : Hp} {j : Addr} {ys : List V} (hj : H j = some (.lst ys)) : ∀ {rs : List Addr} {rws : List (List Stp)}, Rw K H rs rws → Kp j H H' → Rw K H' rs rws
  | _, _, .nil, _ => .nil
  | _, _, .cons h l t, k => .cons (h.kp k hj) l (t.kp hj k)
theorem Rw.snoc {K : PySem.W.Frag} {H : Hp} {r : Addr} {sts : List Stp} (h : RowAt K H r sts) (l : sts.length ≤ 6) : ∀ {rs : List Addr} {rws : List (List Stp)}, Rw K H rs rws → Rw K H (rs ++ [r]) (rws ++ [sts])
  | _, _, .nil => .cons h l .nil
  | _, _, .cons h' l' t => .cons h' l' (t.snoc h l)
theorem Rw.len {K : PySem.W.Frag} {H : Hp} : ∀ {rs : List Addr} {rws : List (List Stp)}, Rw K H rs rws → rs.length = rws.length
  | _, _, .nil => rfl
  | _, _, .cons _ _ t => congrArg (· + 1) t.len
theorem Rw.get {K : PySem.W.Frag} {H : Hp} : ∀ {rs : List Addr} {rws : List (List Stp)} {i : Nat} {r : Addr}, Rw K H rs rws → rs[i]? = some r → ∃ sts, rws[i]? = some sts ∧ RowAt K H r sts ∧ sts.length ≤ 6
  | _, _, _, _, .nil, e => by simp at e
  | _, _, 0, _, .cons h l t, e => by
    simp at e; subst e
    exact ⟨_, by simp, h, l⟩
  | _, _, i + 1, _, .cons h l t, e => by
    obtain ⟨sts, e1, h1⟩ := t.get (i := i) (by simpa using e)
    exact ⟨sts, by simpa using e1, h1⟩
end Pd

set_option maxHeartbeats 4000000
namespace Pd
open PySem PySem.Spec PyProof.Rows L2 SX
/-! ### what is written of steps and foldings -/
def tild (c : Nat) : Nat := swapC 32 126 c
def wordL : Stp → List Nat
  | .low => [108, 111, 119, 101, 114] | .swap _ _ => [115, 119, 97, 112] | .drop _ => [100, 114, 111, 112] | .lead _ => [108, 101, 97, 100] | .once _ => [111, 110, 99, 101] | .cut _ => [99, 117, 116]
theorem word_S (st : Stp) : wordOf st = S (wordL st) := by
  have h : ("lower" : Str) = S [108, 111, 119, 101, 114] ∧ ("swap" : Str) = S [115, 119, 97, 112] ∧ ("drop" : Str) = S [100, 114, 111, 112] ∧ ("lead" : Str) = S [108, 101, 97, 100] ∧ ("once" : Str) = S [111, 110, 99, 101] ∧ ("cut" : Str) = S [99, 117, 116] := by decide +kernel
  obtain ⟨h1, h2, h3, h4, h5, h6⟩ := h
  cases st
  · exact h1
  · exact h2
  · exact h3
  · exact h4
  · exact h5
  · exact h6
def argL : Stp → List (List Nat)
  | .low => [] | .swap a b => [[tild a], [tild b]] | .drop cs => [cs.map tild] | .lead a => [[tild a]] | .once a => [[tild a]] | .cut n => [[48 + n]]
def partL (st : Stp) : List Nat := TL.joinL [32] (wordL st :: argL st)
def plainL : List Nat := [112, 108, 97, 105, 110]
def ftext (sts : List Stp) : List Nat := if sts = [] then plainL else TL.joinL [59, 32] (sts.map partL)
/-- a value and the word that is written of it -/
def WordIs (v : V) (x : List Nat) : Prop := (∃ l : List Nat, v = .str (S l) ∧ l.length ≤ 60 ∧ x = l.map tild) ∨ ∃ n : Nat, 1 ≤ n ∧ n ≤ 9 ∧ v = .int (n : Nat) ∧ x = [48 + n]
theorem arg_len (st : Stp) : (argL st).length = (stpVals st).tail.length := by cases st <;> rfl
theorem arg_get {st : Stp} (ok : st.ok) {i : Nat} {v : V} (h : (stpVals st).tail[i]? = some v) : ∃ x, (argL st)[i]? = some x ∧ WordIs v x := by
  have one : ∀ c : Nat, WordIs (.str (sg c)) [tild c] := fun c => .inl ⟨[c], rfl, by simp, rfl⟩
  cases st with
  | low => simp [stpVals] at h
  | swap a b =>
    match i, h with
    | 0, h => simp [stpVals] at h; subst h; exact ⟨_, rfl, one a⟩
    | 1, h => simp [stpVals] at h; subst h; exact ⟨_, rfl, one b⟩
    | i + 2, h => simp [stpVals] at h
  | drop cs =>
    match i, h with
    | 0, h => simp [stpVals] at h; subst h; exact ⟨_, rfl, .inl ⟨cs, rfl, Nat.le_trans ok.2.1 (by decide), rfl⟩⟩
    | i + 1, h => simp [stpVals] at h
  | lead a =>
    match i, h with
    | 0, h => simp [stpVals] at h; subst h; exact ⟨_, rfl, one a⟩
    | i + 1, h => simp [stpVals] at h
  | once a =>
    match i, h with
    | 0, h => simp [stpVals] at h; subst h; exact ⟨_, rfl, one a⟩
    | i + 1, h => simp [stpVals] at h
  | cut n =>
    match i, h with
    | 0, h => simp [stpVals] at h; subst h; exact ⟨_, rfl, .inr ⟨n, ok.1, ok.2, rfl, rfl⟩⟩
    | i + 1, h => simp [stpVals] at h
theorem word_tild (st : Stp) : (wordL st).map tild = wordL st := by cases st <;> rfl
theorem word_len (st : Stp) : (wordL st).length ≤ 5 := by cases st <;> simp [wordL]
theorem word_get {st : Stp} (ok : st.ok) {i : Nat} {v : V} (h : (stpVals st)[i]? = some v) : ∃ x, (wordL st :: argL st)[i]? = some x ∧ WordIs v x := by
  cases i with
  | zero =>
    have e : (stpVals st)[0]? = some (.str (wordOf st)) := by cases st <;> rfl
    rw [e] at h
    cases h
    exact ⟨_, rfl, .inl ⟨wordL st, by rw [word_S], Nat.le_trans (word_len st) (by decide), (word_tild st).symm⟩⟩
  | succ i =>
    have e : (stpVals st)[i + 1]? = (stpVals st).tail[i]? := by cases st <;> rfl
    rw [e] at h
    obtain ⟨x, hx, hw⟩ := arg_get ok h
    exact ⟨x, by simpa using hx, hw⟩
theorem arg_lens {st : Stp} (ok : st.ok) : ∀ x ∈ argL st, x.length ≤ 10 := by
  intro x hx
  cases st with
  | low => exact nomatch hx
  | swap a b => simp [argL] at hx; rcases hx with rfl | rfl <;> simp
  | drop cs => simp [argL] at hx; subst hx; rw [List.length_map]; exact ok.2.1
  | lead a => simp [argL] at hx; subst hx; simp
  | once a => simp [argL] at hx; subst hx; simp
  | cut n => simp [argL] at hx; subst hx; simp
theorem arg_few (st : Stp) : (argL st).length ≤ 2 := by cases st <;> simp [argL]
theorem sum_le {m : Nat} : ∀ {xs : List (List Nat)}, (∀ x ∈ xs, x.length ≤ m) → (xs.map (·.length)).sum ≤ xs.length * m
  | [], _ => by simp
  | x :: xs, h => by
    have h1 := h x (List.mem_cons_self ..)
    have h2 := sum_le (xs := xs) fun y hy => h y (List.mem_cons_of_mem _ hy)
    rw [List.map_cons, List.sum_cons, List.length_cons, Nat.add_mul]
    omega
theorem sum_S (xs : List (List Nat)) : ((xs.map S).map (·.length)).sum = (xs.map (·.length)).sum := by
  rw [List.map_map]
  congr 1
theorem joinL_len (sep : List Nat) : ∀ xs : List (List Nat), (TL.joinL sep xs).length ≤ (xs.map (·.length)).sum + xs.length * sep.length
  | [] => by simp [TL.joinL]
  | [x] => by simp [TL.joinL]
  | x :: y :: r => by
    have ih := joinL_len sep (y :: r)
    show (x ++ (sep ++ TL.joinL sep (y :: r))).length ≤ _
    rw [List.length_append, List.length_append, List.map_cons, List.sum_cons, List.length_cons, Nat.add_mul]
    omega
theorem part_len {st : Stp} (ok : st.ok) : (partL st).length ≤ 33 := by
  have h1 := joinL_len [32] (wordL st :: argL st)
  have h2 := sum_le (m := 10) (arg_lens ok)
  have h3 := word_len st
  have h4 := arg_few st
  rw [List.map_cons, List.sum_cons, List.length_cons] at h1
  have h5 : (argL st).length * 10 ≤ 20 := by omega
  have h6 : ((argL st).length + 1) * ([32] : List Nat).length ≤ 3 := by show ((argL st).length + 1) * 1 ≤ 3; omega
  show (TL.joinL [32] (wordL st :: argL st)).length ≤ 33
  omega
theorem parts_len {sts : List Stp} (ok : ∀ st ∈ sts, st.ok) : ∀ x ∈ sts.map partL, x.length ≤ 33 := fun x hx => by
  obtain ⟨st, h, rfl⟩ := List.mem_map.mp hx
  exact part_len (ok st h)
theorem ftext_len {sts : List Stp} (ok : ∀ st ∈ sts, st.ok) (h6 : sts.length ≤ 6) : (ftext sts).length ≤ 300 := by
  unfold ftext
  split
  · decide
  · have h1 := joinL_len [59, 32] (sts.map partL)
    have h2 := sum_le (parts_len ok)
    rw [List.length_map] at h1 h2
    have h3 : sts.length * ([59, 32] : List Nat).length ≤ 12 := by show sts.length * 2 ≤ 12; omega
    omega
theorem tild_S (l : List Nat) : Txt.replace (S l) " " "~" = S (l.map tild) := by
  have e1 : (" " : Str) = sg 32 := by decide +kernel
  have e2 : ("~" : Str) = sg 126 := by decide +kernel
  rw [e1, e2, replace_mk]
  rfl
theorem digit_S : ∀ n : Nat, 1 ≤ n → n ≤ 9 → (toString ((n : Nat) : Int) : Str) = S [48 + n] := by
  intro n h1 h2
  obtain rfl | rfl | rfl | rfl | rfl | rfl | rfl | rfl | rfl : n = 1 ∨ n = 2 ∨ n = 3 ∨ n = 4 ∨ n = 5 ∨ n = 6 ∨ n = 7 ∨ n = 8 ∨ n = 9 := by omega
  all_goals decide +kernel
/-- the tuple behind its first item -/
theorem slice1 {K : PySem.W.Frag} {H : Hp} {r : Addr} {xs : List V} {Q : VK} (hR : SqT K H r xs) (h1 : 1 ≤ xs.length) (q : ∀ r' H', Ext H H' → SqT K H' r' xs.tail → Q (.ref r') H') : rSlA K (.ref r) (some 1) none H Q := by
  have e1 : HT.sIx xs.length 0 (some 1) = 1 := by
    have := HT.sIx_nat xs.length 0 1
    rw [show ((1 : Nat) : Int) = 1 from rfl] at this
    rw [this]; omega
  refine ⟨r, _, rfl, hR, fun hw => ?_, fun hw p np => ?_⟩
  · have e := hw.1
    rw [e1] at e
    omega
  · refine q p _ (Ext.refl.new np) (SqT.of ?_)
    rw [upd_same]
    unfold cutV
    rw [e1, HT.sIx_none, List.take_of_length_le (by rw [List.length_drop]; exact Nat.le_refl _), List.drop_one]
end Pd

set_option maxHeartbeats 4000000
namespace Pd
open PySem PySem.Spec PyProof.Rows L2 SX
/-- __len__ and steps() of a folding -/
def spFLen (K : PySem.W.Frag) (C : Addr) : Sp := fun vs H Q _ => ∃ (o r : Addr) (sts : List Stp), vs = [.ref o] ∧ FoldAt K C H o r sts ∧ Q (.int (sts.length : Nat)) H
def spFSteps (K : PySem.W.Frag) (C : Addr) : Sp := fun vs H Q _ => ∃ (o r : Addr) (sts : List Stp), vs = [.ref o] ∧ FoldAt K C H o r sts ∧ Q (.ref r) H
section
variable {P : Program} {w : World} {K : PySem.W.Frag} {mg : Str → Option Value} {base : Heap}
theorem ok_flen {f Cf : Addr} {fd : FuncData} (F : Fun K "__len__" "Folding.__len__" sFoldingLen f fd) (T : Nms mg) (Z : Fcl K mg Cf) : FnOk P w K mg base CX0 1 f fd ["self"] (spFLen K Cf) := by
  refine F.ok scFoldingLen (fun vs H Q E h => ?_) (fun cdv A outer s H vs Q E hr h => ?_)
  · obtain ⟨o, r, sts, rfl, _⟩ := h
    rfl
  · obtain ⟨o, r, sts, rfl, ⟨⟨dx, e⟩, ⟨ps, hps, al⟩, _⟩, q⟩ := h
    refine ⟨_, pss_one (ps_ret (pe_callB call_len_seq (by rfl) T.len PySem.boot_len (pa_cons (pe_fld (pv 0) rfl) pa_nil))), ?_⟩
    refine ⟨_, rfl, o, Cf, dx, _, _, rfl, e, Z.cl, Z.nS, rfl, r, _, rfl, .inr hps, ?_⟩
    rw [List.length_map, al.len]
    exact q
theorem ok_fsteps {f Cf : Addr} {fd : FuncData} (F : Fun K "steps" "Folding.steps" sFoldingSteps f fd) (Z : Fcl K mg Cf) : FnOk P w K mg base CX0 1 f fd ["self"] (spFSteps K Cf) := by
  refine F.ok scFoldingSteps (fun vs H Q E h => ?_) (fun cdv A outer s H vs Q E hr h => ?_)
  · obtain ⟨o, r, sts, rfl, _⟩ := h
    rfl
  · obtain ⟨o, r, sts, rfl, ⟨⟨dx, e⟩, _, _⟩, q⟩ := h
    exact ⟨_, pss_one (ps_ret (pe_fld (pv 0) rfl)), _, rfl, o, Cf, dx, _, _, rfl, e, Z.cl, Z.nS, rfl, q⟩
end
/-- the class Folding: its length, its steps -/
structure FolS (P : Program) (w : World) (K : PySem.W.Frag) (mg : Str → Option Value) (base : Heap) (C : Addr) : Prop where
  cl : Cls K C
  len : ∃ (g : Addr) (fd : FuncData), PySem.W.findIn K (.ref C) "__len__" = some (some (.ref g)) ∧ PySem.W.isFn K (.ref g) = true ∧ FnOk P w K mg base CX0 1 g fd ["self"] (spFLen K C) ∧ Binds K fd ["self"] []
  steps : ∃ (g : Addr) (fd : FuncData), Meth K C "steps" g ∧ FnOk P w K mg base CX0 1 g fd ["self"] (spFSteps K C) ∧ Binds K fd ["self"] []
end Pd

set_option maxHeartbeats 4000000
namespace Pd
open PySem PySem.Spec PyProof.Rows L2 SX
theorem slice1' {K : PySem.W.Frag} {σ : L2.St} {H : Hp} {r : Addr} {xs : List V} {Q : VK} (hR : SqT K H r xs) (h1 : 1 ≤ xs.length) (q : ∀ r' H', Ext H H' → SqT K H' r' xs.tail → Q (.ref r') H') : tNoPart σ H fun u H3 => rSlA K (.ref r) (some 1) u H3 Q := slice1 hR h1 q
def spWord : Sp := fun vs H Q _ => ∃ v x, vs = [v] ∧ WordIs v x ∧ Q (.str (S x)) H
def spPart : Sp := fun vs H Q _ => ∃ (p : Addr) (st : Stp), vs = [.ref p] ∧ StpAt H p st ∧ st.ok ∧ ∀ H', Ext H H' → Q (.str (S (partL st))) H'
def spFText (K : PySem.W.Frag) (C : Addr) : Sp := fun vs H Q _ => ∃ (o r : Addr) (sts : List Stp), vs = [.ref o] ∧ FoldAt K C H o r sts ∧ ∀ H', Ext H H' → Q (.str (S (ftext sts))) H'
/-- the texts' constants -/
structure CstT (mg : Str → Option Value) : Prop where
  between : ∃ t, mg "BETWEEN_STEPS" = some (.str "; " t)
  without : ∃ t, mg "WITHOUT_STEPS" = some (.str "plain" t)
theorem semi_S : ("; " : Str) = S [59, 32] := by decide +kernel
theorem space_S : (" " : Str) = S [32] := by decide +kernel
theorem plain_S : ("plain" : Str) = S plainL := by decide +kernel
theorem Al.get' {H : Hp} : ∀ {ps : List Addr} {sts : List Stp} {i : Nat} {p : Addr}, Al H ps sts → ps[i]? = some p → ∃ st, sts[i]? = some st ∧ StpAt H p st ∧ st.ok := Al.get
section
variable {P : Program} {w : World} {K : PySem.W.Frag} {mg : Str → Option Value} {base : Heap}
end
end Pd

set_option maxHeartbeats 4000000
namespace Pd
open PySem PySem.Spec PyProof.Rows L2 SX
def spLText (K : PySem.W.Frag) : Sp := fun vs H Q _ => ∃ (r : Addr) (sts : List Stp), vs = [.ref r] ∧ RowAt K H r sts ∧ sts.length ≤ 6 ∧ ∀ H', Ext H H' → Q (.str (S (ftext sts))) H'
theorem joinL_one (sep : List Nat) (x : List Nat) : TL.joinL sep [x] = x := rfl
/-- two values that are the same at any depth below n -/
inductive Sm (K : PySem.W.Frag) (H : Hp) : Nat → V → V → Prop where
  | str {n : Nat} (z : Str) : Sm K H n (.str z) (.str z)
  | int {n : Nat} (i : Int) : Sm K H n (.int i) (.int i)
  | tup {n : Nat} {a b : Addr} {xs ys : List V} (h1 : SqT K H a xs) (h2 : SqT K H b ys) (hl : xs.length = ys.length) (hb : xs.length ≤ 1000) (h : ∀ (i : Nat) (x y : V), xs[i]? = some x → ys[i]? = some y → Sm K H n x y) : Sm K H (n + 1) (.ref a) (.ref b)
theorem Sm.ext {K : PySem.W.Frag} {H H' : Hp} (k : Ext H H') : ∀ {n : Nat} {x y : V}, Sm K H n x y → Sm K H' n x y
  | _, _, _, .str z => .str z
  | _, _, _, .int i => .int i
  | _, _, _, .tup h1 h2 hl hb h => .tup (sqT_keep h1 fun o e => k _ o e) (sqT_keep h2 fun o e => k _ o e) hl hb fun i x y e1 e2 => (h i x y e1 e2).ext k
def spSame (K : PySem.W.Frag) (n : Nat) : Sp := fun vs H Q _ => ∃ x y, vs = [x, y] ∧ Sm K H n x y ∧ ∀ H', Ext H H' → Q (.bl true) H'
theorem sm_vals {K : PySem.W.Frag} {H : Hp} {p : Addr} {st : Stp} (h : StpAt H p st) : Sm K H 1 (.ref p) (.ref p) := by
  refine .tup h.seq h.seq rfl (by cases st <;> simp [stpVals]) fun i x y e1 e2 => ?_
  rw [e1] at e2
  cases e2
  have key : ∀ v ∈ stpVals st, Sm K H 0 v v := by
    intro v hv
    cases st <;> simp [stpVals] at hv <;> (try rcases hv with rfl | rfl | rfl) <;> (try rcases hv with rfl | rfl) <;> (try subst hv) <;> first | exact .str _ | exact .int _
  exact key x (List.mem_of_getElem? e1)
theorem sm_row {K : PySem.W.Frag} {H : Hp} {r : Addr} {sts : List Stp} (h : RowAt K H r sts) (h6 : sts.length ≤ 6) : Sm K H 2 (.ref r) (.ref r) := by
  obtain ⟨ps, hp, al⟩ := h
  refine .tup hp hp rfl (by rw [List.length_map, al.len]; omega) fun i x y e1 e2 => ?_
  rw [e1] at e2
  cases e2
  rw [List.getElem?_map] at e1
  obtain ⟨p, hp', rfl⟩ := Option.map_eq_some_iff.mp e1
  obtain ⟨st, _, hst, _⟩ := al.get hp'
  exact sm_vals hst
theorem ne_sameI {n : Int} {A B : Prop} (h : B) : if (!decide (V.int n = V.int n)) = true then A else B := by
  rw [decide_eq_true rfl]; exact h
section
variable {P : Program} {w : World} {K : PySem.W.Frag} {mg : Str → Option Value} {base : Heap}
theorem ok_lpart {f : Addr} {fd : FuncData} (F : Fun K "_law_part" "_law_part" sLawPart f fd) (T : Nms mg) : FnOk P w K mg base CX0 1 f fd ["step"] spPart := by
  refine fnOk_1 F scLawPart (by decide +kernel) (by decide) (fun vs H Q E h => ?_) (fun cdv A outer s H vs Q E hr h => ?_)
  · obtain ⟨p, st, rfl, _⟩ := h
    rfl
  · obtain ⟨p, st, rfl, hst, hok, q⟩ := h
    have nd := scLawPart.nd
    refine ⟨_, pssn_one (psn_ret (pen_m1 PySem.F.slot_str_join PySem.F.type_str_join mt_join (pen pe_str)
      (pen_lc (own := [("entry", 1)]) (g := gName 1) (tt := tYes) rfl nd (pi_tup (pv 0)) (blkOk_by (N := ["step", "entry"]) (sc := defScope sLawPart) (by decide +kernel)) (fun _ _ _ _ _ => pg_name (i := 1) nd rfl (Or.inl rfl)) (fun _ _ _ _ _ => pts_nil)
        (fun _ _ _ _ _ => pen_replC (Nat.le_refl 1) (pe_callTy (callR_or call_str_int SkE.call_str_str) (by rfl) T.str (by decide +kernel) (pa_cons (pv 1) pa_nil)))))), ?_⟩
    refine ⟨⟨_, rfl⟩, _, rfl, p, rfl, ⟨_, hst.seq⟩, fun D hD => ?_⟩
    refine lc_it (walk_tup (xs := stpVals st)) (fun i H' => H' D = some (.lst ((((wordL st :: argL st).take i).map S).map V.str)) ∧ Ext H H') ⟨upd_same, Ext.refl.new hD⟩ (fun i H' _ z => (hst.ext z.2).seq) ?_ ?_
    · rintro i x H2 H3 hi ⟨h2, k2⟩ ⟨rfl, hx⟩
      obtain ⟨y, hy, hw⟩ := word_get hok hx
      have fin : ∃ acc, H3 D = some (.lst acc) ∧ acc.length < sizeLine ∧ (L2.upd H3 D (.lst (acc ++ [V.str (S y)]))) D = some (.lst ((((wordL st :: argL st).take (i + 1)).map S).map V.str)) ∧ Ext H (L2.upd H3 D (.lst (acc ++ [V.str (S y)]))) := by
        refine ⟨_, h2, ?_, ?_, k2.new hD⟩
        · rw [List.length_map, List.length_map, sizeLine_eq]
          have h1 := List.length_take_le' i (wordL st :: argL st)
          have h3 := arg_few st
          rw [List.length_cons] at h1
          omega
        · rw [upd_same, List.take_succ, hy, List.map_append, List.map_append]
          rfl
      have e1 : ("~" : Str).length = 1 := by decide +kernel
      rcases hw with ⟨l, rfl, hl, rfl⟩ | ⟨n, h1, h9, rfl, rfl⟩
      · refine ⟨rfl, _, rfl, .inr ⟨_, rfl, S l, rfl, ?_, ?_⟩⟩
        · rw [S_len, e1]; omega
        · rw [tild_S]; exact fin
      · refine ⟨rfl, _, rfl, .inl ⟨_, rfl, ?_, S [48 + n], ?_, ?_, ?_⟩⟩
        · have : ((n : Nat) : Int).natAbs = n := by omega
          rw [this]
          exact Nat.lt_of_le_of_lt (Nat.log2_le_self n) (by omega)
        · rw [digit_S n h1 h9]
        · rw [S_len, e1]; simp
        · rw [tild_S]
          have e2 : ([48 + n] : List Nat).map tild = [48 + n] := by
            show [swapC 32 126 (48 + n)] = _
            unfold swapC
            rw [if_neg (by omega)]
          rw [e2]
          exact fin
    · rintro H2 ⟨h2, k2⟩
      have e2 : (stpVals st).length = (wordL st :: argL st).length := by
        rw [List.length_cons, arg_len]
        cases st <;> rfl
      rw [e2, List.take_length] at h2
      refine ⟨_, D, (wordL st :: argL st).map S, rfl, rfl, .inl (SqL.of h2), ?_, ?_⟩
      · rw [sum_S, List.length_map, List.map_cons, List.sum_cons, List.length_cons]
        have h1 := sum_le (m := 10) (arg_lens hok)
        have h3 := word_len st
        have h4 := arg_few st
        have e : (" " : Str).length = 1 := by decide +kernel
        rw [e]
        omega
      · rw [space_S, join_S]
        exact q _ k2
theorem ok_lftext {f : Addr} {fd : FuncData} (F : Fun K "_law_folding_text" "_law_folding_text" sLawFoldingText f fd) (W : Cl P w K mg base 1 "_law_part" spPart) : FnOk P w K mg base CX0 2 f fd ["steps"] (spLText K) := by
  refine F.ok scLawFoldingText (fun vs H Q E h => ?_) (fun cdv A outer s H vs Q E hr h => ?_)
  · obtain ⟨r, sts, rfl, _⟩ := h
    rfl
  · obtain ⟨r, sts, rfl, hR, h6, q⟩ := h
    have nd := scLawFoldingText.nd
    refine ⟨_, pss_one (ps_ret (pe_ifExp (pt_cmpR (op_neDK (K := K) rfl hr.units) (pv 0) (pe_tup pa_nil) (nomark _))
      (pe_join pe_str (pe_lc (own := [("step", 1)]) (g := gName 1) (tt := tYes) rfl nd (pi_tup (pv 0)) (blkOk_by (N := ["steps", "step"]) (sc := defScope sLawFoldingText) (by decide +kernel)) (fun _ _ _ _ _ => pg_name (i := 1) nd rfl (Or.inl rfl)) (fun _ _ _ _ _ => pts_nil)
        (fun _ _ _ _ _ => pe_cl W hr (by decide) rfl (pa_cons (pv 1) pa_nil)))) pe_str)), ?_⟩
    refine ⟨_, rfl, by show 0 ≤ sizeLine; decide, fun t ht => ?_⟩
    have kt : Ext H (L2.upd H t (.tup [])) := Ext.refl.new ht
    obtain ⟨ps, hps, al⟩ := hR.ext kt
    refine ⟨_, _, .tup hps (al_dp al), .tup (SqT.of upd_same) .nil, row_shape al.ok, by decide +kernel, _, rfl, ?_⟩
    by_cases hs : sts = []
    · subst hs
      have e : (!PyData.eqv (.tuple (([] : List Stp).map stpData)) (.tuple [])) = false := by decide +kernel
      rw [e]
      refine iteF ?_
      have z := q _ kt
      rw [show ftext [] = plainL from rfl, ← plain_S] at z
      exact z
    · have e : (!PyData.eqv (.tuple (sts.map stpData)) (.tuple [])) = true := by
        cases sts with
        | nil => exact absurd rfl hs
        | cons st sts => rfl
      rw [e]
      refine iteT ⟨⟨_, rfl⟩, _, rfl, r, rfl, ⟨_, hps⟩, fun D hD => ?_⟩
      refine lc_it (walk_tup (xs := ps.map V.ref)) (fun i H' => H' D = some (.lst ((((sts.take i).map partL).map S).map V.str)) ∧ Ext (L2.upd H t (.tup [])) H') ⟨upd_same, Ext.refl.new hD⟩ (fun i H' _ z => sqT_keep hps fun o e => z.2 r o e) ?_ ?_
      · rintro i x H2 H3 hi ⟨h2, k2⟩ ⟨rfl, hx⟩
        rw [List.getElem?_map] at hx
        obtain ⟨p, hp, rfl⟩ := Option.map_eq_some_iff.mp hx
        obtain ⟨st, es, hst, ok⟩ := al.get hp
        refine ⟨rfl, _, rfl, p, st, rfl, hst.ext k2, ok, fun H4 k4 => ⟨_, k4 D _ h2, ?_, ?_, (k2.trans k4).new hD⟩⟩
        · rw [List.length_map, List.length_map, List.length_map, sizeLine_eq]
          have := List.length_take_le' i sts
          omega
        · rw [upd_same, List.take_succ, es, List.map_append, List.map_append, List.map_append]
          rfl
      · rintro H2 ⟨h2, k2⟩
        rw [List.length_map, al.len, List.take_length] at h2
        refine ⟨_, D, (sts.map partL).map S, rfl, rfl, .inl (SqL.of h2), ?_, ?_⟩
        · rw [sum_S, List.length_map, List.length_map]
          have h1 := sum_le (parts_len al.ok)
          rw [List.length_map] at h1
          have e : ("; " : Str).length = 2 := by decide +kernel
          rw [e]
          omega
        · rw [semi_S, join_S]
          have z := q H2 (kt.trans k2)
          unfold ftext at z
          rw [if_neg hs] at z
          exact z
theorem ok_same {f : Addr} {fd : FuncData} (F : Fun K "_law_same" "_law_same" sLawSame f fd) (T : Nms mg) (m : mg "_law_same" = some (.ref f)) (kp : PySem.W.keepIn K (.ref f) = true) (b : Binds K fd ["actual", "expected"] []) : ∀ n : Nat, FnOk P w K mg base CX0 (n + 1) f fd ["actual", "expected"] (spSame K n) := by
  have body : ∀ n : Nat, (∀ m', n = m' + 1 → FnOk P w K mg base CX0 n f fd ["actual", "expected"] (spSame K m')) → FnOk P w K mg base CX0 (n + 1) f fd ["actual", "expected"] (spSame K n) := by
    intro n ih
    refine F.ok scLawSame (fun vs H Q E h => ?_) (fun cdv A outer s H vs Q E hr h => ?_)
    · obtain ⟨x, y, rfl, _⟩ := h
      rfl
    · obtain ⟨x, y, rfl, sm, q⟩ := h
      have nd := scLawSame.nd

      cases sm with
      | str z =>
        refine ⟨_, pss_cons (ps_if (pt_val (pe_callB call_isi (by rfl) T.isi (by decide +kernel) (pa_cons (pv 1) (pa_cons (pe_bltn (v := .ty "tuple") (by rfl) T.tuple (by decide +kernel) rfl) pa_nil)))) pss_never pss_nil)
          (pss_cons (ps_if (pt_val (pe_callB call_isi (by rfl) T.isi (by decide +kernel) (pa_cons (pv 1) (pa_cons (pe_bltn (v := .ty "str") (by rfl) T.str (by decide +kernel) rfl) pa_nil))))
            (pss_one (ps_ret (pe_and (pe_callB call_isi (by rfl) T.isi (by decide +kernel) (pa_cons (pv 0) (pa_cons (pe_bltn (v := .ty "str") (by rfl) T.str (by decide +kernel) rfl) pa_nil))) (pe_one (pe_cmpR op_eq (pv 0) (pv 1) (nomark _)))))) pss_nil)
          pss_never), ?_⟩
        refine ⟨_, rfl, _, _, _, _, false, rfl, .ty "tuple", .base (.str _), kit_ty (by decide +kernel), false, rfl, iteF ?_⟩
        refine ⟨_, rfl, _, _, _, _, true, rfl, .ty "str", .base (.str _), kit_ty (by decide +kernel), true, rfl, iteT ?_⟩
        refine ⟨_, rfl, _, _, _, _, true, rfl, .ty "str", .base (.str _), kit_ty (by decide +kernel), true, rfl, iteT ⟨_, rfl, _, rfl, rfl, ?_⟩⟩
        rw [decide_eq_true rfl]
        exact q H .refl
      | int i =>
        refine ⟨_, pss_cons (ps_if (pt_val (pe_callB call_isi (by rfl) T.isi (by decide +kernel) (pa_cons (pv 1) (pa_cons (pe_bltn (v := .ty "tuple") (by rfl) T.tuple (by decide +kernel) rfl) pa_nil)))) pss_never pss_nil)
          (pss_cons (ps_if (pt_val (pe_callB call_isi (by rfl) T.isi (by decide +kernel) (pa_cons (pv 1) (pa_cons (pe_bltn (v := .ty "str") (by rfl) T.str (by decide +kernel) rfl) pa_nil)))) pss_never pss_nil)
          (pss_one (ps_ret (pe_and (pe_callB call_isi (by rfl) T.isi (by decide +kernel) (pa_cons (pv 0) (pa_cons (pe_bltn (v := .ty "int") (by rfl) T.int (by decide +kernel) rfl) pa_nil)))
            (pe_and (pe_not (pe_callB call_isi (by rfl) T.isi (by decide +kernel) (pa_cons (pv 0) (pa_cons (pe_bltn (v := .ty "bool") (by rfl) T.bool (by decide +kernel) rfl) pa_nil)))) (pe_one (pe_cmpR op_eq (pv 0) (pv 1) (nomark _)))))))), ?_⟩
        refine ⟨_, rfl, _, _, _, _, false, rfl, .ty "tuple", .base (.int _), kit_ty (by decide +kernel), false, rfl, iteF ?_⟩
        refine ⟨_, rfl, _, _, _, _, false, rfl, .ty "str", .base (.int _), kit_ty (by decide +kernel), false, rfl, iteF ?_⟩
        refine ⟨_, rfl, _, _, _, _, true, rfl, .ty "int", .base (.int _), kit_ty (by decide +kernel), true, rfl, iteT ?_⟩
        refine ⟨_, rfl, _, _, _, _, false, rfl, .ty "bool", .base (.int _), kit_ty (by decide +kernel), false, rfl, true, rfl, iteT ⟨_, rfl, _, rfl, rfl, ?_⟩⟩
        rw [decide_eq_true rfl]
        exact q H .refl
      | @tup m' a c xs ys h1 h2 hl hb hs =>
        refine ⟨_, pss_cons (ps_if (pt_val (pe_callB call_isi (by rfl) T.isi (by decide +kernel) (pa_cons (pv 1) (pa_cons (pe_bltn (v := .ty "tuple") (by rfl) T.tuple (by decide +kernel) rfl) pa_nil))))
          (pss_cons (ps_if (PW.pt (pw_or (pt_not (pt_val (pe_callB call_isi (by rfl) T.isi (by decide +kernel) (pa_cons (pv 0) (pa_cons (pe_bltn (v := .ty "tuple") (by rfl) T.tuple (by decide +kernel) rfl) pa_nil)))))
              (pw_or1 (pt_cmpR op_ne (pe_callB call_len_seq (by rfl) T.len PySem.boot_len (pa_cons (pv 0) pa_nil)) (pe_callB call_len_seq (by rfl) T.len PySem.boot_len (pa_cons (pv 1) pa_nil)) (nomark _))))) pss_never pss_nil)
          (pss_cons (ps_for PassesOwn.never rfl (pi_range1 rfl T.range (pa_cons (pe_callB call_len_seq (by rfl) T.len PySem.boot_len (pa_cons (pv 1) pa_nil)) pa_nil)) (pg_name (i := 2) nd rfl (Or.inl rfl))
            (pss_one (ps_if (pt_not (pt_val (pe_call (ih m' rfl) (hr.mono (Nat.le_refl _)) rfl m kp b .nil pass0 (pa_cons (pe_ix ix_tup (pv 0) (pv 2) (fun _ _ => rfl)) (pa_cons (pe_ix ix_tup (pv 1) (pv 2) (fun _ _ => rfl)) pa_nil))))) pss_never pss_nil)))
          (pss_one (ps_ret pe_bl)))) pss_nil) pss_never, ?_⟩
        refine ⟨_, rfl, _, _, _, _, true, rfl, .ty "tuple", sqT_ty h2, kit_ty (by decide +kernel), true, rfl, iteT ?_⟩
        refine ⟨_, rfl, _, _, _, _, true, rfl, .ty "tuple", sqT_ty h1, kit_ty (by decide +kernel), true, rfl, iteF ?_⟩
        refine ⟨_, rfl, a, xs, rfl, .inr h1, _, rfl, c, ys, rfl, .inr h2, rfl, _, rfl, ?_⟩
        rw [hl]
        refine ne_sameI ?_
        refine ⟨_, rfl, c, ys, rfl, .inr h2, _, rfl, by omega, by omega, ?_⟩
        refine for_range (lo := 0) (n := ((ys.length : Nat) : Int).toNat) (fun i σ H' => ∃ u, σ = [some (.ref a), some (.ref c), u] ∧ Ext H H') ⟨none, rfl, .refl⟩ ?_ ?_
        · rintro i σ H2 hi ⟨u, rfl, k2⟩
          have hi' : i < ys.length := by omega
          have ei : (0 : Int) + (i : Nat) = ((i : Nat) : Int) := by omega
          have hx : xs[i]? = some xs[i] := List.getElem?_eq_getElem (by omega)
          have hy : ys[i]? = some ys[i] := List.getElem?_eq_getElem hi'
          refine ⟨_, rfl, _, rfl, a, xs, i, xs[i], rfl, by rw [ei], sqT_keep h1 (fun o e => k2 _ o e), atI_nat hx, ?_⟩
          refine ⟨_, rfl, _, rfl, c, ys, i, ys[i], rfl, by rw [ei], sqT_keep h2 (fun o e => k2 _ o e), atI_nat hy, ?_⟩
          exact ⟨_, _, rfl, (hs i _ _ hx hy).ext k2, fun H3 k3 => ⟨true, rfl, iteF ⟨_, rfl, k2.trans k3⟩⟩⟩
        · rintro σ H2 ⟨u, rfl, k2⟩
          exact q H2 k2
  intro n
  induction n with
  | zero => exact body 0 fun m' e => by omega
  | succ n ih => exact body (n + 1) fun m' e => by cases e; exact ih
end
end Pd

set_option maxHeartbeats 4000000
namespace Pd
open PySem PySem.Spec PyProof.Rows L2 SX
/-! ### rows cut and put together -/
theorem Al.take {H : Hp} : ∀ {ps : List Addr} {sts : List Stp} (k : Nat), Al H ps sts → Al H (ps.take k) (sts.take k)
  | _, _, 0, _ => by rw [List.take_zero, List.take_zero]; exact .nil
  | _, _, k + 1, .nil => .nil
  | _, _, k + 1, .cons h ok r => .cons h ok (r.take k)
theorem Al.drop {H : Hp} : ∀ {ps : List Addr} {sts : List Stp} (k : Nat), Al H ps sts → Al H (ps.drop k) (sts.drop k)
  | _, _, 0, h => h
  | _, _, k + 1, .nil => .nil
  | _, _, k + 1, .cons h ok r => r.drop k
theorem Al.append {H : Hp} : ∀ {ps qs : List Addr} {sts tts : List Stp}, Al H ps sts → Al H qs tts → Al H (ps ++ qs) (sts ++ tts)
  | _, _, _, _, .nil, h => h
  | _, _, _, _, .cons h ok r, q => .cons h ok (r.append q)
theorem row_take {K : PySem.W.Frag} {H : Hp} {r : Addr} {sts : List Stp} {k : Int} {Q : VK} (hR : RowAt K H r sts) (h0 : 0 ≤ k) (q : ∀ r' H', Ext H H' → RowAt K H' r' (sts.take k.toNat) → Q (.ref r') H') : rSlA K (.ref r) none (some k) H Q := by
  obtain ⟨ps, hp, al⟩ := hR
  have ek : k = ((k.toNat : Nat) : Int) := by omega
  have hl : (ps.map V.ref).length = ps.length := List.length_map _
  refine ⟨r, _, rfl, hp, fun hw => ?_, fun hw p np => ?_⟩
  · have e := hw.2
    rw [ek, HT.sIx_nat, hl] at e
    refine q r H .refl ⟨ps, hp, ?_⟩
    have := al.len
    rw [List.take_of_length_le (by omega)]
    exact al
  · refine q p _ (Ext.refl.new np) ⟨ps.take k.toNat, SqT.of ?_, (al.take _).ext (Ext.refl.new np)⟩
    rw [upd_same]
    unfold cutV
    rw [ek, HT.sIx_nat, HT.sIx_none, List.drop_zero, Nat.sub_zero, List.map_take, hl]
    congr 2
    by_cases h : k.toNat ≤ ps.length
    · rw [Nat.min_eq_left (by omega)]; rw [Int.toNat_natCast]
    · rw [Nat.min_eq_right (by omega), List.take_of_length_le (by rw [hl]; omega), List.take_of_length_le (by rw [hl]; omega)]
theorem row_drop {K : PySem.W.Frag} {H : Hp} {r : Addr} {sts : List Stp} {k : Int} {Q : VK} (hR : RowAt K H r sts) (h0 : 0 ≤ k) (q : ∀ r' H', Ext H H' → RowAt K H' r' (sts.drop k.toNat) → Q (.ref r') H') : rSlA K (.ref r) (some k) none H Q := by
  obtain ⟨ps, hp, al⟩ := hR
  have ek : k = ((k.toNat : Nat) : Int) := by omega
  have hl : (ps.map V.ref).length = ps.length := List.length_map _
  refine ⟨r, _, rfl, hp, fun hw => ?_, fun hw p np => ?_⟩
  · have e := hw.1
    rw [ek, HT.sIx_nat, hl] at e
    have hlen := al.len
    by_cases hk : k.toNat = 0
    · refine q r H .refl ⟨ps, hp, ?_⟩
      rw [hk]
      exact al
    · have e2 : ps.length = 0 := by omega
      have e3 : ps = [] := List.eq_nil_of_length_eq_zero e2
      subst e3
      have e4 : sts = [] := List.eq_nil_of_length_eq_zero (by rw [← hlen]; rfl)
      subst e4
      refine q r H .refl ⟨[], hp, ?_⟩
      rw [List.drop_nil]
      exact .nil
  · refine q p _ (Ext.refl.new np) ⟨ps.drop k.toNat, SqT.of ?_, (al.drop _).ext (Ext.refl.new np)⟩
    rw [upd_same]
    unfold cutV
    rw [ek, HT.sIx_nat, HT.sIx_none, List.map_drop, hl, Int.toNat_natCast]
    congr 2
    by_cases h : k.toNat ≤ ps.length
    · rw [Nat.min_eq_left (by omega), List.take_of_length_le (by rw [List.length_drop, hl]; omega)]
    · rw [Nat.min_eq_right (by omega), Nat.sub_self, List.take_zero, List.drop_eq_nil_of_le (by rw [hl]; omega)]
theorem row_cat {K : PySem.W.Frag} {H : Hp} {r t : Addr} {s1 s2 : List Stp} {Q : VK} (h1 : RowAt K H r s1) (h2 : RowAt K H t s2) (hl : s1.length + s2.length ≤ 1000) (q : ∀ r' H', Ext H H' → RowAt K H' r' (s1 ++ s2) → Q (.ref r') H') : rCatA K (.ref r) (.ref t) H Q := by
  obtain ⟨ps, hp, al⟩ := h1
  obtain ⟨qs, hq, bl⟩ := h2
  have n1 : ps.map V.ref = [] → s1 = [] := fun e => by
    have := al.len
    rw [List.map_eq_nil_iff.mp e] at this
    exact List.eq_nil_of_length_eq_zero this.symm
  have n2 : qs.map V.ref = [] → s2 = [] := fun e => by
    have := bl.len
    rw [List.map_eq_nil_iff.mp e] at this
    exact List.eq_nil_of_length_eq_zero this.symm
  refine ⟨r, t, _, _, rfl, rfl, hp, hq, ?_, fun e => ?_, fun _ e => ?_, fun _ _ p np => ?_⟩
  · rw [List.length_map, List.length_map, al.len, bl.len, sizeLine_eq]; omega
  · rw [n1 e, List.nil_append] at q
    exact q t H .refl ⟨qs, hq, bl⟩
  · rw [n2 e, List.append_nil] at q
    exact q r H .refl ⟨ps, hp, al⟩
  · refine q p _ (Ext.refl.new np) ⟨ps ++ qs, SqT.of ?_, (al.append bl).ext (Ext.refl.new np)⟩
    rw [upd_same, List.map_append]
theorem mks_append (a b : List Stp) (l : List Nat) : mks (a ++ b) l = mks b (mks a l) := List.foldl_append ..
def spAdd (K : PySem.W.Frag) (C : Addr) : Sp := fun vs H Q _ => ∃ (o1 r1 o2 r2 : Addr) (s1 s2 : List Stp), vs = [.ref o1, .ref o2] ∧ FoldAt K C H o1 r1 s1 ∧ FoldAt K C H o2 r2 s2 ∧ s1.length + s2.length ≤ 6 ∧
  ∀ o r H', Ext H H' → FoldAt K C H' o r (s1 ++ s2) → Q (.ref o) H'
section
variable {P : Program} {w : World} {K : PySem.W.Frag} {mg : Str → Option Value} {base : Heap}
theorem ok_fadd {f Cf : Addr} {fd : FuncData} (F : Fun K "__add__" "Folding.__add__" sFoldingAdd f fd) (T : Nms mg) (Z : Fcl K mg Cf) (IC : C8.InsC K Cf) (Y : Fol P w K mg base Cf) : FnOk P w K mg base CX0 6 f fd ["self", "other"] (spAdd K Cf) := by
  refine F.ok scFoldingAdd (fun vs H Q E h => ?_) (fun cdv A outer s H vs Q E hr h => ?_)
  · obtain ⟨o1, r1, o2, r2, s1, s2, rfl, _⟩ := h
    rfl
  · obtain ⟨o1, r1, o2, r2, s1, s2, rfl, F1, F2, h6, q⟩ := h
    obtain ⟨fi, fdi, M, FI, bI⟩ := Y.made
    refine ⟨_, pss_cons (ps_if (pt_not (pt_val (pe_callB call_isi (by rfl) T.isi (by decide +kernel) (pa_cons (pv 1) (pa_cons (pe_glob (v := .ref Cf) rfl Z.mgC rfl) pa_nil))))) pss_never pss_nil)
      (pss_one (ps_ret (pe_make M FI hr rfl Z.mgC bI .nil pass0 (pa_cons (pe_op op_catA (pe_fld (pv 0) rfl) (pe_fld (pv 1) rfl)) pa_nil)))), ?_⟩
    obtain ⟨⟨d1, e1⟩, R1, l1⟩ := id F1
    obtain ⟨⟨d2, e2⟩, R2, l2⟩ := id F2
    refine ⟨_, rfl, _, _, .ref Cf, .ref Cf, true, rfl, .own Cf, .base (.ins e2 IC.cl IC.ha IC.hn IC.htk IC.hm), IC.me, true, rfl, iteF ?_⟩
    refine ⟨_, rfl, o1, Cf, d1, _, _, rfl, e1, Z.cl, Z.nS, rfl, _, rfl, o2, Cf, d2, _, _, rfl, e2, Z.cl, Z.nS, rfl, ?_⟩
    refine row_cat R1 R2 (by omega) fun r' H1 k1 R' x dx hx hdx ne => ?_
    refine made_ask R' (by rw [List.length_append]; omega) hx hdx ne fun H2 F2' k2 => ⟨rfl, q x r' H2 (k1.trans k2) F2'⟩
end
end Pd

namespace Pd
open PySem PySem.Spec PyProof.Rows L2 PySem.OEX
/-! ### D.__init__(self, ..) in an own error's __init__, D an own error without one -/
section
variable {X : Cx} {e : Expr} {es : List Expr} {ta : TA} {p1 p2 pos : Pos} {D : Addr} {x : Str}
theorem pe_oeinit {pl : Sem Bool} (hg : Gl X x) (hm : X.mg x = some (.ref D)) (rg : PySem.W.specialIn X.K (.ref D) "__getattribute__" = some (some (.builtin "type.__getattribute__"))) (rd : PySem.W.readsIn X.K D (.type "type") = true)
    (vV : PySem.W.findCls X.K (.ref D) (.type "type") "__init__" = some (.val (.builtin "ValueError.__init__"))) (ha : PA X (e :: es) ta)
    (hc : eval (.Call (.Attribute (.Name x p1) "__init__" p2) (e :: es) [] pos) X.env = (do
      let ov ← eval (.Name x p1) X.env
      standAt p2.atName
      let (f, first) ← holding [ov] (getMethod ov "__init__" pl)
      callWith pos f first (backTo pos (starEach (e :: es) X.env)) (backToKw pos (keywordEach [] X.env))) := by rfl)
    (hd : (x == ("__debug__" : Str)) = false := by decide)
    (he : starEach (e :: es) X.env = (false, eval e X.env) :: starEach es X.env := by rfl) (hpl : (backTo pos (starEach es X.env)).any (·.1) = false := by rfl) :
    PE X (.Call (.Attribute (.Name x p1) "__init__" p2) (e :: es) [] pos) (tVeI X.K ta) := by
  refine ⟨fun pins s σ H Q I h => ?_⟩
  refine PySem.W.methodCall_KW (ld_glob I hg hm ?_ hd) hc
  refine PySem.W.method_cls I.kIn rg (PySem.W.cls_value I.kIn rd vV (by decide +kernel) ?_)
  have I := I.tok (s.toks + 1)
  show wpAny _ _ (callWith pos (Value.builtin "ValueError.__init__") [] (backTo pos (starEach (e :: es) X.env)) []) _ _ _
  refine PyProof.Rows.callWith_method1 (thn (ha.run pos pins _ σ H _ I h) fun us s1 ⟨vs, H1, I1, r1, a, C, ws, ev, hl, T, ea, q⟩ => ?_) he hpl
  subst ev
  cases r1 with
  | @cons _ u0 _ ur ra rw' =>
    obtain rfl : u0 = Value.ref a := ra
    have hlen : ur.length ≤ sizeLine := by
      rw [← Paired.length rw', sizeLine_eq]
      omega
    exact oinit_ok T I1 ea hlen fun s' J => ⟨.non, H1, J, rfl, q⟩
end
end Pd

set_option maxHeartbeats 4000000
namespace Pd
open PySem PySem.Spec PyProof.Rows L2 PySem.OEX
/-- NoStep.__init__: the new error has the field index -/
def spNsInit (K : PySem.W.Frag) (C : Addr) : Sp := fun vs H Q _ => ∃ (a : Addr) (y : V), vs = [.ref a, y] ∧ H a = some (exo a C none) ∧
  ∀ d, H d = none → d ≠ a → Q .non (upd (upd H d (exd d [("index", y)])) a (exo a C (some d)))
/-- what the class NoStep and its base say -/
structure NsC (K : PySem.W.Frag) (mg : Str → Option Value) (C D : Addr) : Prop where
  o : OexC K C
  no : PySem.W.findIn K (.ref C) "index" = some none
  g : mg "PlainError" = some (.ref D)
  rg : PySem.W.specialIn K (.ref D) "__getattribute__" = some (some (.builtin "type.__getattribute__"))
  rd : PySem.W.readsIn K D (.type "type") = true
  vV : PySem.W.findCls K (.ref D) (.type "type") "__init__" = some (.val (.builtin "ValueError.__init__"))
section
variable {P : Program} {w : World} {K : PySem.W.Frag} {mg : Str → Option Value} {base : Heap}
theorem ok_nsInit {f C D : Addr} {fd : FuncData} (F : Fun K "__init__" "NoStep.__init__" sNostepInit f fd) (Z : NsC K mg C D) : FnOk P w K mg base CX0 1 f fd ["self", "index"] (spNsInit K C) := by
  refine F.ok scNostepInit (fun vs H Q E h => ?_) (fun cdv A outer s H vs Q E hr h => ?_)
  · obtain ⟨a, y, rfl, _⟩ := h
    rfl
  · obtain ⟨a, y, rfl, e, q⟩ := h
    refine ⟨_, pss_cons (ps_expr (pe_oeinit (x := "PlainError") rfl Z.g Z.rg Z.rd Z.vV (pa_cons (pv 0) (pa_cons pe_str pa_nil))))
      (pss_one (ps_ost (pv 0) (pv 1))), ?_⟩
    refine ⟨_, rfl, a, C, _, rfl, by show 1 ≤ 1000; decide, Z.o, e, ?_⟩
    exact ⟨_, rfl, _, rfl, a, C, rfl, Z.o, Z.no, .inl ⟨e, fun dx hd n => q dx hd n⟩⟩
end
end Pd

set_option maxHeartbeats 4000000
namespace Pd
open PySem PySem.Spec PyProof.Rows L2
/-! ### discard, of a set whose keys are a list -/
theorem perm_of_len {α : Type} [DecidableEq α] : ∀ {L ks : List α}, L.Nodup → (∀ k ∈ L, k ∈ ks) → ks.length ≤ L.length → ks.Perm L
  | [], ks, _, _, l => by
    rw [List.eq_nil_of_length_eq_zero (Nat.le_zero.mp l)]
  | a :: L, ks, nd, sub, l => by
    have ha := sub a (List.mem_cons_self ..)
    have p := List.perm_cons_erase ha
    obtain ⟨n1, n2⟩ := List.nodup_cons.mp nd
    have q : (ks.erase a).Perm L := perm_of_len n2 (fun k hk => (List.mem_erase_of_ne (by rintro rfl; exact n1 hk)).mpr (sub k (List.mem_cons_of_mem _ hk))) (by
      have := p.length_eq
      simp only [List.length_cons] at this l
      omega)
    exact p.trans (q.cons a)
theorem perm_at {α : Type} : ∀ {ks : List α} {i : Nat} {k : α}, ks[i]? = some k → (k :: ks.eraseIdx i).Perm ks
  | [], _, _, e => by simp at e
  | a :: ks, 0, k, e => by
    simp at e; subst e
    simp
  | a :: ks, i + 1, k, e => by
    have z := perm_at (ks := ks) (i := i) (k := k) (by simpa using e)
    rw [List.eraseIdx_cons_succ]
    exact (List.Perm.swap a k _).trans (z.cons a)
/-- membership, and a list without a key, or with one -/
def hasK {T : Type} [DecidableEq T] (L : List T) : T → Bool := fun j => decide (j ∈ L)
def offK {T : Type} [DecidableEq T] (L : List T) (k : T) : List T := L.erase k
def addK {T : Type} [DecidableEq T] (L : List T) (k : T) : List T := if k ∈ L then L else L ++ [k]
section
variable {T : Type} [DecidableEq T] {L : List T} {j k : T}
theorem offK_nodup (h : L.Nodup) : (offK L k).Nodup := h.erase k
theorem hasK_off (h : L.Nodup) : hasK (offK L k) j = (decide (j ≠ k) && hasK L j) := by
  unfold hasK offK
  rw [← Bool.decide_and]
  exact decide_eq_decide.mpr h.mem_erase_iff
theorem offK_len : (offK L k).length ≤ L.length := List.length_erase_le
theorem addK_nodup (h : L.Nodup) : (addK L k).Nodup := by
  unfold addK
  split
  · exact h
  · rename_i hk
    rw [List.nodup_append]
    refine ⟨h, by simp, fun x hx y hy => ?_⟩
    rw [List.mem_singleton.mp hy]
    rintro rfl
    exact hk hx
theorem hasK_add : hasK (addK L k) j = (hasK L j || decide (j = k)) := by
  unfold hasK addK
  split
  · rename_i hk
    by_cases e : j = k
    · subst e; simp [hk]
    · simp [e]
  · rw [← Bool.decide_or]
    exact decide_eq_decide.mpr (by rw [List.mem_append, List.mem_singleton])
theorem addK_len : (addK L k).length ≤ L.length + 1 := by
  unfold addK
  split
  · omega
  · simp
theorem addK_len' : (addK L k).length = if hasK L k = true then L.length else L.length + 1 := by
  unfold addK hasK
  by_cases hk : k ∈ L
  · rw [if_pos hk, if_pos (decide_eq_true hk)]
  · rw [if_neg hk, if_neg (by rw [decide_eq_false hk]; decide)]
    simp
end
section
variable {prog : Program} {w : World} {T : Type} [DecidableEq T] {knd : KeyKind prog w T}
/-- the keys of entries, one behind the other -/
inductive KsOf (knd : KeyKind prog w T) : List T → List (Int × Value) → Prop where
  | nil : KsOf knd [] []
  | cons {k : T} {e : Int × Value} {ks : List T} {l : List (Int × Value)} (h : knd.is k e.2 = true) (r : KsOf knd ks l) : KsOf knd (k :: ks) (e :: l)
theorem KsOf.of : ∀ {l : List (Int × Value)}, ElemsOf knd l → ∃ ks, KsOf knd ks l
  | [], _ => ⟨[], .nil⟩
  | e :: l, h => by
    obtain ⟨⟨k, hk, _⟩, _⟩ := h.head
    obtain ⟨ks, r⟩ := KsOf.of h.tail
    exact ⟨k :: ks, .cons hk r⟩
theorem KsOf.len : ∀ {ks : List T} {l : List (Int × Value)}, KsOf knd ks l → ks.length = l.length
  | _, _, .nil => rfl
  | _, _, .cons _ r => congrArg (· + 1) r.len
theorem KsOf.mem {k : T} : ∀ {ks : List T} {l : List (Int × Value)}, KsOf knd ks l → (k ∈ ks ↔ ∃ e ∈ l, knd.is k e.2 = true)
  | _, _, .nil => by simp
  | _, _, .cons (k := k0) (e := e) h r => by
    rw [List.mem_cons, r.mem]
    constructor
    · rintro (rfl | ⟨x, hx, hp⟩)
      · exact ⟨e, List.mem_cons_self .., h⟩
      · exact ⟨x, List.mem_cons_of_mem _ hx, hp⟩
    · rintro ⟨x, hx, hp⟩
      rcases List.mem_cons.mp hx with rfl | hx
      · exact .inl (knd.inj _ _ _ hp h)
      · exact .inr ⟨x, hx, hp⟩
theorem KsOf.erase : ∀ {ks : List T} {l : List (Int × Value)} (i : Nat), KsOf knd ks l → KsOf knd (ks.eraseIdx i) (l.eraseIdx i)
  | _, _, _, .nil => by simpa using KsOf.nil
  | _, _, 0, .cons h r => by simpa using r
  | _, _, i + 1, .cons h r => by simpa using KsOf.cons h (r.erase i)
theorem KsOf.at_ {k : T} : ∀ {ks : List T} {l : List (Int × Value)} {i : Nat} (hi : i < l.length), KsOf knd ks l → knd.is k (l[i]).2 = true → ks[i]? = some k
  | _, _, _, hi, .nil, _ => absurd hi (Nat.not_lt_zero _)
  | _, _, 0, hi, .cons h r, e => by
    have := knd.inj _ _ _ e h
    subst this; rfl
  | _, _, i + 1, hi, .cons h r, e => by
    simpa using r.at_ (i := i) (by simpa using hi) (by simpa using e)
theorem erase_list {α : Type} (xs : Array α) (i : Nat) : (SetTable.eraseAt xs i).toList = xs.toList.eraseIdx i := by
  unfold SetTable.eraseAt
  rw [Array.toList_append, Array.toList_extract, Array.toList_extract, List.eraseIdx_eq_take_drop_succ]
  simp [List.extract_eq_drop_take]
  rw [List.take_of_length_le (by simp)]
theorem ins_size {α : Type} (xs : Array α) (p : Nat) (x : α) : (SetTable.insertAt xs p x).size = xs.size + 1 := by
  unfold SetTable.insertAt
  simp only [Array.size_append, Array.size_push, Array.size_extract]
  omega
theorem ers_size {α : Type} (xs : Array α) (i : Nat) (hi : i < xs.size) : (SetTable.eraseAt xs i).size = xs.size - 1 := by
  rw [← Array.length_toList, erase_list, List.length_eraseIdx_of_lt (by simpa using hi), Array.length_toList]
theorem drop_fits {t : SetTable} {n i : Nat} (h : t.fits n = true) (hi : i < n) : (t.drop i).fits (n - 1) = true := by
  simp only [SetTable.fits, Bool.and_eq_true, beq_iff_eq, decide_eq_true_eq] at h ⊢
  obtain ⟨h1, h2⟩ := h
  have hp : i < t.place.size := by omega
  unfold SetTable.fill at h2
  unfold SetTable.drop SetTable.fill
  rw [Array.getElem?_eq_getElem hp]
  dsimp only
  rw [ers_size _ _ hp, ins_size]
  omega
variable {A : Around} {E : Value → Shared → Prop} {s : Shared} {a : Addr} {k : T} {key : Value}
theorem call_set_discard {L : List T} {Q : Value → Shared → Prop} (hkey : knd.is k key = true) (hsc : key.scannable = true) (hS : s.heap.SetOf knd a (hasK L) L.length) (nd : L.Nodup)
    (h : ∀ h', Heap.SameBut a s.heap h' → h'.SetOf knd a (hasK (offK L k)) (offK L k).length → Q .none { s with heap := h', toks := s.toks + 1 }) :
    wpAny (model prog w) A (call (.builtin "set.discard") [.ref a, key]) Q E s := by
  obtain ⟨o, es, ep, t, ho, hex, hd, hel, hmem, hb, hf, hn⟩ := id hS
  refine wpAny_call_entry F.slot_set_discard hS.typeIs F.entry_set_discard ?_ (F.args_set_discard_2 _ _)
  unfold Builtin.«set.discard» Builtin.Frozenset.oneOther
  simp only [List.isEmpty_nil, bind_assoc]
  unfold Builtin.Frozenset.addrOf Builtin.Frozenset.withSetAsKey setDiscard
  refine wpAny_bind (wpAny_pure ?_)
  try dsimp only
  refine wpAny_bind (wpAny_pure ?_)
  try dsimp only
  refine wpAny_bind (wpAny_tryCatch (wpAny_holding (wpAny_bind (knd.pyHash hkey ?_))))
  unfold setDiscardHashed setFind setFindIn
  refine wpAny_bind (wpAny_bind (wpAny_setState_of ho hd hf ?_))
  dsimp only
  rw [byScan_of hsc hb hel]
  simp only [↓reduceIte]
  refine wpAny_bind (wpAny_rule (wpAny_bind (wpAny_setScan_of hkey ho hd hf hel ?_)))
  obtain ⟨ks, K1⟩ := KsOf.of hel
  have P1 : ks.Perm L := perm_of_len nd (fun j hj => K1.mem.mpr ((hmem j).mp (decide_eq_true hj))) (by rw [K1.len, Array.length_toList, hn]; exact Nat.le_refl _)
  cases hr : List.findIdx? (fun e => knd.is k e.2) es.toList with
  | none =>
    dsimp only
    refine wpAny_pure (wpAny_pure ?_)
    have nk : k ∉ L := fun hk => by
      obtain ⟨e, he, hp⟩ := (hmem k).mp (decide_eq_true hk)
      have := List.findIdx?_eq_none_iff.mp hr e he
      rw [hp] at this; cases this
    have z := h s.heap (Heap.SameBut.refl a s.heap) (by unfold offK; rw [List.erase_of_not_mem nk]; exact hS)
    show wpAny _ _ (ret Value.none) _ _ _
    exact wpAny_pure ⟨_, rfl, z⟩
  | some i =>
    dsimp only
    obtain ⟨hi, hpi, _⟩ := List.findIdx?_eq_some_iff_getElem.mp hr
    have hi' : i < es.size := by simpa using hi
    refine wpAny_pure ?_
    dsimp only
    rw [Nat.zero_add]
    refine wpAny_bind (wpAny_setState_of ho hd hf ?_)
    dsimp only
    have ek := K1.at_ hi hpi
    obtain ⟨hik, ei⟩ := List.getElem?_eq_some_iff.mp ek
    have P2 : (ks.eraseIdx i).Perm (L.erase k) := by
      have p1 := perm_at ek
      have p2 := List.perm_cons_erase (P1.mem_iff.mp (ei ▸ List.getElem_mem hik))
      exact ((p1.trans P1).trans p2).cons_inv
    have K2 := K1.erase i
    have el := erase_list es i
    have sz : (SetTable.eraseAt es i).size = es.size - 1 := ers_size es i hi'
    have hel2 : ElemsOf knd (SetTable.eraseAt es i).toList := by
      rw [el]
      exact fun e he => hel e (List.mem_of_mem_eraseIdx he)
    have hm2 : ∀ j, decide (j ∈ L.erase k) = true ↔ ∃ e ∈ (SetTable.eraseAt es i).toList, knd.is j e.2 = true := fun j => by
      rw [decide_eq_true_eq, el, ← K2.mem, P2.mem_iff]
    refine wpAny_bind (wpAny_storeSet_of ho hd ?_ (fits_of_scanBound (Nat.lt_of_le_of_lt (by rw [sz]; omega) hb)))
    obtain ⟨ho1, hS1⟩ := SetOf_store (knd := knd) (t' := t.drop i) ho hex hd hel2 hm2 (by rw [sz]; omega) (by rw [sz]; exact drop_fits hf hi')
    refine wpAny_bind (wpAny_point (wpAny_pure ?_))
    have e2 : (SetTable.eraseAt es i).size = (L.erase k).length := by
      rw [← P2.length_eq, K2.len, ← el, Array.length_toList]
    rw [e2] at hS1
    show wpAny _ _ (ret Value.none) _ _ _
    exact wpAny_pure ⟨_, rfl, h _ (Heap.SameBut.update s.heap a _) hS1⟩
end
/-- a set of the keys of a list -/
def SetL (P : Program) (w : World) (a : Addr) (L : List Key) : HO := SetK P w a (hasK L) L.length
def rDiscL (P : Program) (w : World) : V → List V → Hp → VK → Prop := fun x xs H Q => ∃ (a : Addr) (k : Key) (L : List Key), x = V.ref a ∧ xs = [kV k] ∧ H a = some (SetL P w a L) ∧ L.Nodup ∧
  Q .non (upd H a (SetL P w a (offK L k)))
section
variable {X : Cx}
theorem mt_sdiscL : MtR X "set.discard" (rDiscL X.prog X.w) := by
  intro pins s σ H x xs v us Q I rx rxs h
  obtain ⟨a, k, L, rfl, rfl, ha, nd, q⟩ := h
  cases rx
  cases rxs with
  | cons ry rt =>
    cases rt
    refine call_set_discard (L := L) (kV_is ry) (key_scan ry) (setK_get I ha) nd fun h' sb new => ?_
    have he : ∃ u, h'.get? a = some u := by
      have ⟨o, _, _, _, ho, _⟩ := new
      exact ⟨o, ho⟩
    exact ⟨.non, upd H a (SetL X.prog X.w a (offK L k)), I.write (e := a) (t' := s.toks + 1) (by rw [ha]; trivial) (.inl rfl) (fun b u hb hu => (sb.2 b hb).trans hu) he (setK_new new), rfl, q⟩
end
end Pd

set_option maxHeartbeats 4000000
namespace Pd
open PySem PySem.Spec PyProof.Rows L2
theorem hasK_nil : (hasK ([] : List Key)) = fun _ => false := by
  funext j
  simp [hasK]
/-- set() -/
def rNewL (P : Program) (w : World) : List V → Hp → VK → Prop := fun xs H Q => xs = [] ∧ ∀ p, H p = none → Q (.ref p) (upd H p (SetL P w p []))
/-- k in found -/
def rInL (P : Program) (w : World) : R2 := fun x y H Q => ∃ (k : Key) (a : Addr) (L : List Key), x = kV k ∧ y = V.ref a ∧ H a = some (SetL P w a L) ∧ Q (.bl (hasK L k)) H
/-- found.add(k) -/
def rAddL (P : Program) (w : World) : V → List V → Hp → VK → Prop := fun x xs H Q => ∃ (a : Addr) (k : Key) (L : List Key), x = V.ref a ∧ xs = [kV k] ∧ H a = some (SetL P w a L) ∧ L.length + 1 < 4096 ∧
  Q .non (upd H a (SetL P w a (addK L k)))
/-- a method of a set of keys, by one value -/
def tSM (P : Program) (w : World) (r : V → List V → Hp → VK → Prop) (to te : TE) : TE := fun σ H Q => to σ H fun x H1 => (∃ a L, x = V.ref a ∧ H1 a = some (SetL P w a L)) ∧ te σ H1 fun y H2 => r x [y] H2 Q
section
variable {X : Cx}
theorem cr_newL : CallR X (.type "set") (rNewL X.prog X.w) := by
  intro pins s σ H xs us Q I r h
  obtain ⟨e, q⟩ := h
  refine cr_set0K pins s σ H xs us Q I r ⟨e, fun p hp => ?_⟩
  have z := q p hp
  unfold SetL at z
  rw [hasK_nil] at z
  exact z
theorem op_inL : OpR X (compareOp .In) (rInL X.prog X.w) := by
  intro pins s σ H x y v u Q I rx ry h
  obtain ⟨k, a, L, ex, ey, ha, q⟩ := h
  exact or_sinK pins s σ H x y v u Q I rx ry ⟨k, a, hasK L, L.length, ex, ey, ha, q⟩
theorem mt_addL : MtR X "set.add" (rAddL X.prog X.w) := by
  intro pins s σ H x xs v us Q I rx rxs h
  obtain ⟨a, k, L, ex, exs, ha, room, q⟩ := h
  refine mt_saddK pins s σ H x xs v us Q I rx rxs ⟨a, k, hasK L, L.length, ex, exs, ha, room, ?_⟩
  unfold SetL at q
  rw [addK_len', show hasK (addK L k) = fun j => hasK L j || decide (j = k) from funext fun j => hasK_add] at q
  exact q
theorem pe_setM {a e : Expr} {ta te : TE} {name : Str} {id : String} {apos pos : Pos} {r : V → List V → Hp → VK → Prop} (slot : Slot "set" name id) (ty : typeOf (.builtin id) = pure (.type "method_descriptor")) (rule : MtR X id r) (ho : PE X a ta) (he : PE X e te)
    (hs : starEach [e] X.env = [(false, eval e X.env)] := by rfl) (hbase : attributeBase a name X.env (eval a X.env) = eval a X.env := by rfl) (hline : (apos.endLine == pos.line) = true := by rfl) :
    PE X (.Call (.Attribute a name apos) [e] [] pos) (tSM X.prog X.w r ta te) := by
  constructor
  intro pins s σ H Q I h
  refine PySem.Call_method1 hbase hs hline (thn (ho.run pins s σ H _ I h) ?_)
  rintro v s1 ⟨x, H1, I1, r1, ⟨b, L, rfl, hb⟩, q1⟩
  obtain rfl : v = Value.ref b := r1
  have hS := setK_get I1 hb
  refine ⟨"set", _, F.plainAttrs_set, slot, ty, hS.typeIs, hS.noDict, Calls.callWith_builtin rfl (Calls.evalArgs_plain (Calls.spliced_cons ?_))⟩
  exact thn (he.run pins s1 σ H1 _ I1 q1) fun w s2 ⟨y, H2, I2, r2, q2⟩ => Calls.spliced_nil (rule pins s2 σ H2 (.ref b) [y] (.ref b) [w] Q I2 rfl (.cons r2 .nil) q2)
end
end Pd

set_option maxHeartbeats 4000000
namespace Pd
open PySem PySem.Spec PyProof.Rows L2
/-! ### len(set(xs)), xs a tuple of texts -/
def metS (xs : List Str) : Nat → List Str
  | 0 => []
  | i + 1 => if (metS xs i).any (· == xs.getD i Str.empty) then metS xs i else metS xs i ++ [xs.getD i Str.empty]
theorem metS_len (xs : List Str) : ∀ i, (metS xs i).length ≤ i
  | 0 => Nat.le_refl _
  | i + 1 => by
    have := metS_len xs i
    show (if _ then _ else _ : List Str).length ≤ _
    split
    · omega
    · rw [List.length_append]; show _ + 1 ≤ _; omega
theorem metS_any (xs : List Str) (i : Nat) (k : Str) : (metS xs (i + 1)).any (· == k) = ((metS xs i).any (· == k) || decide (k = xs.getD i Str.empty)) := by
  show (if _ then _ else _ : List Str).any _ = _
  generalize xs.getD i Str.empty = v
  split
  next h =>
    by_cases e : k = v
    · subst e; rw [h]; simp
    · simp [e]
  next h =>
    rw [List.any_append]
    by_cases e : k = v
    · subst e; simp
    · have z : (v == k) = false := beq_eq_false_iff_ne.mpr fun q => e q.symm
      simp [z, e]
theorem metS_step (xs : List Str) (i : Nat) : (metS xs (i + 1)).length = if (metS xs i).any (· == xs.getD i Str.empty) then (metS xs i).length else (metS xs i).length + 1 := by
  show (if _ then _ else _ : List Str).length = _
  split
  · rfl
  · rw [List.length_append]; rfl
theorem metS_mem (xs : List Str) (k : Str) : ∀ i, i ≤ xs.length → ((metS xs i).any (· == k) = true ↔ k ∈ xs.take i)
  | 0, _ => by simp [metS]
  | i + 1, h => by
    have hi : i < xs.length := h
    rw [metS_any, Bool.or_eq_true, metS_mem xs k i (Nat.le_of_lt hi), decide_eq_true_iff, List.take_add_one, List.getElem?_eq_getElem hi, List.mem_append]
    have e : xs.getD i Str.empty = xs[i] := by rw [List.getD_eq_getElem?_getD, List.getElem?_eq_getElem hi]; rfl
    rw [e]; simp
/-- as many are met as there are just where none stands twice -/
theorem metS_full (xs : List Str) : ∀ i, i ≤ xs.length → ((metS xs i).length = i ↔ (xs.take i).Nodup)
  | 0, _ => by simp [metS]
  | i + 1, h => by
    have hi : i < xs.length := h
    have e : xs.getD i Str.empty = xs[i] := by rw [List.getD_eq_getElem?_getD, List.getElem?_eq_getElem hi]; rfl
    have ih := metS_full xs i (Nat.le_of_lt hi)
    have l := metS_len xs i
    rw [metS_step, List.take_add_one, List.getElem?_eq_getElem hi, Option.toList_some, List.nodup_append]
    have m := metS_mem xs xs[i] i (Nat.le_of_lt hi)
    rw [e]
    by_cases z : (metS xs i).any (· == xs[i]) = true
    · rw [if_pos z]
      refine ⟨fun q => by omega, fun q => ?_⟩
      exact absurd rfl (q.2.2 _ (m.mp z) _ (List.mem_singleton_self _))
    · rw [if_neg z]
      refine ⟨fun q => ⟨ih.mp (by omega), by simp, fun a ha b hb => ?_⟩, fun q => by have := ih.mpr q.1; omega⟩
      rw [List.mem_singleton.mp hb]
      rintro rfl
      exact z (m.mpr ha)
section
variable {prog : Program} {w : World} {A : Around} {R : Result → Shared → Prop} {I : Addr} {fp wr : List Addr} {G : Array GenState → Array GenState → Prop} {n : Nat} {P : Nat → Value → Prop} {St : Nat → Shared → Prop}
theorem loop_strs (W : WalksS prog w A.in1 I fp wr G n P St) (S : Addr) (hSf : S ∉ fp) (xs : List Str) (hn1 : n ≤ 1000) (hval : ∀ i v, P i v → ∃ t, v = .str (xs.getD i Str.empty) t) :
    ∀ (k i : Nat) (s : Shared), n - i = k → i ≤ n → St i s → s.heap.SetOf (PySem.strKind prog w) S (fun k' => (metS xs i).any (· == k')) (metS xs i).length →
      (∀ s', Moved (S :: wr) G s s' → s'.heap.SetOf (PySem.strKind prog w) S (fun k' => (metS xs n).any (· == k')) (metS xs n).length → R (.ok (.ret .none)) s') →
      codeAny (model prog w) A (.builtin "set.update.loop" ⟨[.ref S, .ref I], []⟩) R s := by
  have nw : S ∉ wr := fun z => hSf (W.sub _ z)
  have up : ∀ b ∈ wr, b ∈ S :: wr := fun b z => List.mem_cons_of_mem _ z
  have stay : ∀ {s s' : Shared} {X : Str → Bool} {m : Nat}, Moved wr G s s' → s.heap.SetOf (PySem.strKind prog w) S X m → s'.heap.SetOf (PySem.strKind prog w) S X m := by
    rintro s s' X m hm ⟨o, es, ep, t, ho, more⟩
    exact ⟨o, es, ep, t, hm.heap S _ nw ho, more⟩
  intro k
  induction k with
  | zero =>
    intro i s ek hi st hs hR
    obtain rfl : i = n := by omega
    refine codeAny_builtin PyProof.Rows.F.entry_set_update_loop ?_
    rw [Around.under_plainId PyProof.Rows.F.plain_set_update_loop _]
    show wpAny _ A.in1 (pyNext (.ref I) >>= _) _ _ s
    exact wpAny_bind (W.done s _ _ st fun s' hm => show wpAny _ A.in1 (ret Value.none) _ _ s' from wpAny_pure (hR s' (hm.mono up) (stay hm hs)))
  | succ k ih =>
    intro i s ek hi st hs hR
    have lt : i < n := by omega
    refine codeAny_builtin PyProof.Rows.F.entry_set_update_loop ?_
    rw [Around.under_plainId PyProof.Rows.F.plain_set_update_loop _]
    show wpAny _ A.in1 (pyNext (.ref I) >>= _) _ _ s
    refine wpAny_bind (W.item i s _ _ lt st fun v s' hP st' hm => ?_)
    obtain ⟨t, rfl⟩ := hval i v hP
    show wpAny _ A.in1 (holding [Value.str (xs.getD i Str.empty) t] (setAdd S (.str (xs.getD i Str.empty) t)) >>= _) _ _ s'
    refine wpAny_bind (wpAny_holding ?_)
    unfold setAdd
    have ll := metS_len xs i
    have hs' : s'.heap.SetOf (PySem.strKind prog w) S (fun k' => (metS xs i).any (· == k')) (metS xs i).length := stay hm hs
    refine wpAny_holding (wpAny_bind ((PySem.strKind prog w).pyHash (k := xs.getD i Str.empty) (strKind_is _ _ _ _) ?_))
    refine wpAny_setAddHashed_of (knd := PySem.strKind prog w) (s := { s' with toks := s'.toks + 1 }) (strKind_is _ _ _ _) rfl hs' (by unfold scanBound; omega) fun h' hb h2 => ?_
    have here : h'.SetOf (PySem.strKind prog w) S (fun k' => (metS xs (i + 1)).any (· == k')) (metS xs (i + 1)).length :=
      SetOf_congr h2 (fun k' => by rw [metS_any]) (by rw [metS_step])
    have same : ∀ b o, b ≠ S → s'.heap.get? b = some o → h'.get? b = some o := fun b o nb e => by rw [hb.2 b nb]; exact e
    refine wpAny_pure ⟨plainId_quiet PyProof.Rows.F.plain_set_update_loop _, ih (i + 1) _ (by omega) lt (W.frame _ s' _ _ st' (Nat.le_succ _) fun b z o e => same b o (fun q => hSf (q ▸ z)) e) here fun s2 m2 h3 => ?_⟩
    exact hR s2 (Moved.trans W.gtrans ((hm.mono up).then_heap (Nat.le_succ _) fun b o z e => same b o (fun q => z (q ▸ List.mem_cons_self)) e) m2) h3
end
section
variable {prog : Program} {w : World} {A : Around} {E : Value → Shared → Prop} {s : Shared}
abbrev newSet (led : Bool) : Obj := { cls := .type "set", dict := none, data := .set #[] 0 (.fresh 0 0 led) }
theorem sub_ts : isSubtype (.type "tuple") (.type "set") = pure false := by rw [isSubtype_type]; kernel_rfl
theorem sub_tf : isSubtype (.type "tuple") (.type "frozenset") = pure false := by rw [isSubtype_type]; kernel_rfl
set_option maxHeartbeats 6400000 in
theorem set_of_tup {l : Addr} {items : Array Value} {xs : List Str} {Q : Value → Shared → Prop} (hh : A.handled = none) (hl : s.heap.IsTuple l items) (hi : PyProof.Rows.StrsAre items.toList xs) (hn : xs.length ≤ 1000)
    (hq : ∀ (g : Heap) (tk : Nat), g.SetOf (PySem.strKind prog w) s.heap.objs.size (fun k' => (metS xs xs.length).any (· == k')) (metS xs xs.length).length → (∀ b o, s.heap.get? b = some o → g.get? b = some o) → Q (.ref s.heap.objs.size) { s with heap := g, toks := tk }) :
    wpAny (model prog w) A (call (.type "set") [.ref l]) Q E s := by
  obtain ⟨c, tl, hmro⟩ := PySem.F.called_set.mro
  have made := PySem.F.called_set.made
  have subs := PySem.F.called_set.sub
  have sz : xs.length = items.size := by rw [← StrsAre.len_eq hi, Array.length_toList]
  rw [sz] at hq
  refine wpAny_call (codeAny_of_tree ?_)
  show wpAny _ _ (callAny (.type "set") _) _ _ _
  refine wpAny_pure ⟨Code.quiet_builtin _ (by decide +kernel), codeAny_builtin PySem.F.entry_type_call ?_⟩
  rw [Around.under_plain (weight_type_call_type "set" [.ref l] []) rfl]
  have nt := PySem.F.called_set.notType
  have cc := PySem.F.called_set.canCreate
  have tc := PySem.F.typeCall_set_1 (.ref l)
  repeat (any_goals (first | assumption | wp_step))
  refine codeAny_mono (code_set_new_1 (.ref l) (E := E) (Q₁ := fun ob s1 => ∃ led, ob = .ref s.heap.objs.size ∧ s1 = { s with heap := s.heap.push (newSet led) }) fun led => ⟨led, rfl, rfl⟩) fun r s1 hr => ?_
  cases r with
  | error e => exact hr
  | ok fl =>
    cases fl with
    | next => exact hr.elim
    | brk => exact hr.elim
    | cont => exact hr.elim
    | ret ob =>
      obtain ⟨led, rfl, rfl⟩ := hr
      have gS : (s.heap.push (newSet led)).get? s.heap.objs.size = some (newSet led) := Heap.get?_push_size _ rfl
      have tS : Shared.TypeIs { s with heap := s.heap.push (newSet led) } (.ref s.heap.objs.size) "set" := ⟨_, gS, rfl⟩
      have li := PySem.F.called_set.init.lookup
      have bi := PySem.F.called_set.init.bind (.ref s.heap.objs.size)
      repeat (any_goals (first | assumption | wp_step))
      refine codeAny_mono (codeAny_call_builtin (R := wants (fun r s2 => r = .none ∧ ∃ g tk, s2 = { s with heap := g, toks := tk } ∧
          g.SetOf (PySem.strKind prog w) s.heap.objs.size (fun k' => (metS xs items.size).any (· == k')) (metS xs items.size).length ∧ (∀ b o, s.heap.get? b = some o → g.get? b = some o)) E)
          PySem.F.called_set.init.plain PySem.F.entry_set_init (check_set_init_1 tS ?_)) fun r2 s2 h2 => ?_
      · have s1 := sub_ts
        have s3 := sub_tf
        have hl1 : (s.heap.push (newSet led)).IsTuple l items := hl.push _
        have lS : l < s.heap.objs.size := by
          obtain ⟨o, ho, _⟩ := hl
          exact Heap.lt_size ho
        have tT : Shared.TypeIs { s with heap := s.heap.push (newSet led) } (.ref l) "tuple" := by
          obtain ⟨o, ho, hc, _⟩ := hl1
          exact ⟨o, ho, hc⟩
        have ne : (Value.type "tuple" == Value.type "dict") = false := by decide
        unfold Builtin.«set.__init__» noKeywords Builtin.Frozenset.updateFrom
        generalize hPI : pyIter = PI
        wp_walk
        subst hPI
        refine wpAny_pyIter_tuple hl1 (wpAny_bind (wpAny_runValue ?_))
        have e1 : (s.heap.push (newSet led)).objs.size = s.heap.objs.size + 1 := Heap.size_push _ _
        have n1 : l ≠ (s.heap.push (newSet led)).objs.size := by rw [e1]; exact Nat.ne_of_lt (Nat.lt_succ_of_lt lS)
        have n2 : s.heap.objs.size ∉ [(s.heap.push (newSet led)).objs.size, l] := by
          rw [e1]; simp only [List.mem_cons, List.not_mem_nil, or_false, not_or]; exact ⟨Nat.ne_of_lt (Nat.lt_succ_self _), Nat.ne_of_gt lS⟩
        have hv : ∀ (i : Nat) (v : Value), items[i]? = some v → ∃ t, v = .str (xs.getD i Str.empty) t := fun i v q => SS.strs_at hi i v (by rw [Array.getElem?_toList]; exact q)
        have hh3 : A.in1.in1.in1.handled = none := by simp [hh]
        refine loop_strs ((Walks.tuple hh3 _ l n1 items).toS) s.heap.objs.size n2 xs (by omega) hv (items.size - 0) 0 _ (by omega) (Nat.zero_le _) ⟨⟨_, Heap.get?_push_size _ rfl, rfl, rfl⟩, hl1.push _⟩ ?_ ?_
        · exact SetOf_congr ((setObjOf_fresh (knd := PySem.strKind prog w) led).setOf (Heap.get?_push_of_some _ gS) (by unfold scanBound; omega)) (fun _ => rfl) rfl
        · intro s' hm hS'
          obtain ⟨h', g', d', tk', os'⟩ := s'
          obtain rfl : g' = s.gens := hm.gens
          obtain rfl : d' = s.drawn := hm.drawn
          obtain rfl : os' = s.os := hm.os
          show wpAny _ _ _ _ _ _
          refine wpAny_pure ?_
          show wpAny _ _ (ret Value.none) _ _ _
          refine wpAny_pure ⟨rfl, h', tk', rfl, hS', fun b o e => hm.heap b o ?_ (Heap.get?_push_of_some _ (Heap.get?_push_of_some _ e))⟩
          have hb : b < s.heap.objs.size := Heap.lt_size e
          rw [e1]; simp only [List.mem_cons, List.not_mem_nil, or_false, not_or]; exact ⟨Nat.ne_of_lt hb, Nat.ne_of_lt (Nat.lt_succ_of_lt hb)⟩
      · cases r2 with
        | error e => exact h2
        | ok f2 =>
          cases f2 with
          | next => exact h2.elim
          | brk => exact h2.elim
          | cont => exact h2.elim
          | ret r =>
            obtain ⟨rfl, g, tk, rfl, hS, hk⟩ := h2
            repeat (any_goals (first | assumption | wp_step))
            exact hq _ _ hS hk
end
/-- len(set(e)), e a tuple of texts -/
def tLenSetT (K : PySem.W.Frag) (ta : TE) : TE := fun σ H Q => ta σ H fun v H1 => ∃ (a : Addr) (xs : List Str), v = .ref a ∧ SqT K H1 a (xs.map V.str) ∧ xs.length ≤ 1000 ∧ Q (.int ((metS xs xs.length).length : Nat)) H1
theorem pe_lenSetT {X : Cx} {a : Expr} {ta : TE} {p p2 q pos : Pos} (hc : X.calm = true) (hg : Gl X "len") (hm : X.mg "len" = none) (hg2 : Gl X "set") (hm2 : X.mg "set" = none) (ha : PE X a ta)
    (na : starEach [a] X.env = (false, eval a X.env) :: starEach [] X.env := by rfl) : PE X (.Call (.Name "len" p) [.Call (.Name "set" p2) [a] [] q] [] pos) (tLenSetT X.K ta) := by
  constructor
  intro pins s σ H Q I h
  apply Call_ (ld_blt I hg hm boot_len _)
  refine PyProof.Rows.callWith_builtin1 (PyProof.Rows.args_cons (Call_ (ld_blt I hg2 hm2 boot_set ?_)) rfl) rfl rfl
  refine PyProof.Rows.callWith_type1 (PyProof.Rows.args_cons (thn (ha.run pins s σ H _ I h) ?_) na) na rfl
  rintro v s1 ⟨y, H1, I1, r1, l, xs, rfl, hx, hl, q1⟩
  cases r1
  obtain ⟨its, r, pl, hz⟩ := I1.tuple hx
  refine PyProof.Rows.args_nil (set_of_tup (I1.ok.hd hc) pl (by simpa using strsAre_of r) hl fun g tk hS hk => PyProof.Rows.args_nil ?_)
  obtain ⟨o, es, ep, t, ho, hex, hd, _, _, _, hf, hn⟩ := hS
  have I2 : Inv X pins σ H1 { s1 with heap := g, toks := tk } := I1.kept hk
  have ll := metS_len xs xs.length
  exact call_len_set ho hex hd hf (by rw [hn] <;> omega) ⟨.int _, H1, I2.tok _, ⟨_, by rw [hn]⟩, q1⟩
end Pd

set_option maxHeartbeats 4000000
namespace Pd
open PySem PySem.Spec PyProof.Rows L2
/-! ### len(set(x)), x any text -/
section
variable {prog : Program} {w : World} {A : Around} {E : Value → Shared → Prop} {s : Shared}
set_option maxHeartbeats 6400000 in
theorem set_of_str {x : Str} {t : Tok} {xs : List Str} {Q : Value → Shared → Prop} (hh : A.handled = none) (hx : xs = x.cps.toList.map fun c => (⟨#[c]⟩ : Str)) (hn : xs.length ≤ 1000)
    (hq : ∀ (g : Heap) (tk : Nat), g.SetOf (PySem.strKind prog w) s.heap.objs.size (fun k' => (metS xs xs.length).any (· == k')) (metS xs xs.length).length → (∀ b o, s.heap.get? b = some o → g.get? b = some o) → Q (.ref s.heap.objs.size) { s with heap := g, toks := tk }) :
    wpAny (model prog w) A (call (.type "set") [.str x t]) Q E s := by
  obtain ⟨c, tl, hmro⟩ := PySem.F.called_set.mro
  have made := PySem.F.called_set.made
  have subs := PySem.F.called_set.sub
  have sz : xs.length = x.cps.size := by rw [hx, List.length_map, Array.length_toList]
  rw [sz] at hq
  refine wpAny_call (codeAny_of_tree ?_)
  show wpAny _ _ (callAny (.type "set") _) _ _ _
  refine wpAny_pure ⟨Code.quiet_builtin _ (by decide +kernel), codeAny_builtin PySem.F.entry_type_call ?_⟩
  rw [Around.under_plain (weight_type_call_type "set" [.str x t] []) rfl]
  have nt := PySem.F.called_set.notType
  have cc := PySem.F.called_set.canCreate
  have tc := PySem.F.typeCall_set_1 (.str x t)
  repeat (any_goals (first | assumption | wp_step))
  refine codeAny_mono (code_set_new_1 (.str x t) (E := E) (Q₁ := fun ob s1 => ∃ led, ob = .ref s.heap.objs.size ∧ s1 = { s with heap := s.heap.push (newSet led) }) fun led => ⟨led, rfl, rfl⟩) fun r s1 hr => ?_
  cases r with
  | error e => exact hr
  | ok fl =>
    cases fl with
    | next => exact hr.elim
    | brk => exact hr.elim
    | cont => exact hr.elim
    | ret ob =>
      obtain ⟨led, rfl, rfl⟩ := hr
      have gS : (s.heap.push (newSet led)).get? s.heap.objs.size = some (newSet led) := Heap.get?_push_size _ rfl
      have tS : Shared.TypeIs { s with heap := s.heap.push (newSet led) } (.ref s.heap.objs.size) "set" := ⟨_, gS, rfl⟩
      have li := PySem.F.called_set.init.lookup
      have bi := PySem.F.called_set.init.bind (.ref s.heap.objs.size)
      repeat (any_goals (first | assumption | wp_step))
      refine codeAny_mono (codeAny_call_builtin (R := wants (fun r s2 => r = .none ∧ ∃ g tk, s2 = { s with heap := g, toks := tk } ∧
          g.SetOf (PySem.strKind prog w) s.heap.objs.size (fun k' => (metS xs x.cps.size).any (· == k')) (metS xs x.cps.size).length ∧ (∀ b o, s.heap.get? b = some o → g.get? b = some o)) E)
          PySem.F.called_set.init.plain PySem.F.entry_set_init (check_set_init_1 tS ?_)) fun r2 s2 h2 => ?_
      · have s1 := sub_ss
        have s3 := sub_sf
        have tT : Shared.TypeIs { s with heap := s.heap.push (newSet led) } (.str x t) "str" := typeIs_str _ _ _
        have ne : (Value.type "str" == Value.type "dict") = false := by decide
        unfold Builtin.«set.__init__» noKeywords Builtin.Frozenset.updateFrom
        generalize hPI : pyIter = PI
        wp_walk
        subst hPI
        refine wpAny_pyIter_str fun ob St hW hSt => wpAny_bind (wpAny_runValue ?_)
        have e1 : (s.heap.push (newSet led)).objs.size = s.heap.objs.size + 1 := Heap.size_push _ _
        have n2 : s.heap.objs.size ∉ [(s.heap.push (newSet led)).objs.size] := by
          rw [e1]; simp only [List.mem_cons, List.not_mem_nil, or_false]; exact Nat.ne_of_lt (Nat.lt_succ_self _)
        have hv : ∀ (i : Nat) (v : Value), SignAt x i v → ∃ t, v = .str (xs.getD i Str.empty) t := fun i v ⟨c, u, q, e⟩ => by
          refine ⟨u, ?_⟩
          have z : xs[i]? = some (⟨#[c]⟩ : Str) := by
            rw [hx, List.getElem?_map]
            have : x.cps.toList[i]? = some c := by rw [Array.getElem?_toList]; exact q
            rw [this]; rfl
          rw [e, List.getD_eq_getElem?_getD, z]; rfl
        have hh3 : A.in1.in1.in1.handled = none := by simp [hh]
        refine loop_strs (hW _ hh3).toS s.heap.objs.size n2 xs (by omega) hv (x.cps.size - 0) 0 _ (by omega) (Nat.zero_le _) hSt ?_ ?_
        · exact SetOf_congr ((setObjOf_fresh (knd := PySem.strKind prog w) led).setOf (Heap.get?_push_of_some _ gS) (by unfold scanBound; omega)) (fun _ => rfl) rfl
        · intro s' hm hS'
          obtain ⟨h', g', d', tk', os'⟩ := s'
          obtain rfl : g' = s.gens := hm.gens
          obtain rfl : d' = s.drawn := hm.drawn
          obtain rfl : os' = s.os := hm.os
          show wpAny _ _ _ _ _ _
          refine wpAny_pure ?_
          show wpAny _ _ (ret Value.none) _ _ _
          refine wpAny_pure ⟨rfl, h', tk', rfl, hS', fun b o e => hm.heap b o ?_ (Heap.get?_push_of_some _ (Heap.get?_push_of_some _ e))⟩
          have hb : b < s.heap.objs.size := Heap.lt_size e
          rw [e1]; simp only [List.mem_cons, List.not_mem_nil, or_false, not_or]; exact ⟨Nat.ne_of_lt hb, Nat.ne_of_lt (Nat.lt_succ_of_lt hb)⟩
      · cases r2 with
        | error e => exact h2
        | ok f2 =>
          cases f2 with
          | next => exact h2.elim
          | brk => exact h2.elim
          | cont => exact h2.elim
          | ret r =>
            obtain ⟨rfl, g, tk, rfl, hS, hk⟩ := h2
            repeat (any_goals (first | assumption | wp_step))
            exact hq _ _ hS hk
end
def sgnsOf (x : Str) : List Str := x.cps.toList.map fun c => (⟨#[c]⟩ : Str)
def tLenSetX (ta : TE) : TE := fun σ H Q => ta σ H fun v H1 => ∃ x : Str, v = .str x ∧ x.cps.toList.length ≤ 1000 ∧ Q (.int ((metS (sgnsOf x) (sgnsOf x).length).length : Nat)) H1
theorem pe_lenSetX {X : Cx} {a : Expr} {ta : TE} {p p2 q pos : Pos} (hc : X.calm = true) (hg : Gl X "len") (hm : X.mg "len" = none) (hg2 : Gl X "set") (hm2 : X.mg "set" = none) (ha : PE X a ta)
    (na : starEach [a] X.env = (false, eval a X.env) :: starEach [] X.env := by rfl) : PE X (.Call (.Name "len" p) [.Call (.Name "set" p2) [a] [] q] [] pos) (tLenSetX ta) := by
  constructor
  intro pins s σ H Q I h
  apply Call_ (ld_blt I hg hm boot_len _)
  refine PyProof.Rows.callWith_builtin1 (PyProof.Rows.args_cons (Call_ (ld_blt I hg2 hm2 boot_set ?_)) rfl) rfl rfl
  refine PyProof.Rows.callWith_type1 (PyProof.Rows.args_cons (thn (ha.run pins s σ H _ I h) ?_) na) na rfl
  rintro v s1 ⟨y, H1, I1, r1, x, rfl, hl, q1⟩
  obtain ⟨t, rfl⟩ := r1
  refine PyProof.Rows.args_nil (set_of_str (I1.ok.hd hc) (xs := sgnsOf x) rfl (by unfold sgnsOf; rw [List.length_map]; exact hl) fun g tk hS hk => PyProof.Rows.args_nil ?_)
  obtain ⟨o, es, ep, t', ho, hex, hd, _, _, _, hf, hn⟩ := hS
  have I2 : Inv X pins σ H1 { s1 with heap := g, toks := tk } := I1.kept hk
  have ll := metS_len (sgnsOf x) (sgnsOf x).length
  have l2 : (sgnsOf x).length ≤ 1000 := by unfold sgnsOf; rw [List.length_map]; exact hl
  exact call_len_set ho hex hd hf (by rw [hn] <;> omega) ⟨.int _, H1, I2.tok _, ⟨_, by rw [hn]⟩, q1⟩
end Pd

set_option maxHeartbeats 4000000
namespace Pd
open PySem PySem.Spec PyProof.Rows L2 SX
/-! ### what is no step -/
inductive Ds where
  | txt (l : List Nat)
  | num (i : Int)
  | oth
def choB (l : List Nat) : Bool := decide (1 ≤ l.length) && (decide (l.length ≤ 10) && (decide l.Nodup && (l.map fun c => isChr [c]).all id))
def Ds.chr : Ds → Bool
  | .txt l => isChr l
  | _ => false
def Ds.cho : Ds → Bool
  | .txt l => choB l
  | _ => false
def Ds.isI : Ds → Bool
  | .num _ => true
  | _ => false
def Ds.cut : Ds → Bool
  | .num i => decide (1 ≤ i) && decide (i ≤ 9)
  | _ => false
theorem sqL_ty {K : PySem.W.Frag} {H : Hp} {a : Addr} {xs : List V} (h : SqL K H a xs) : TyX K H (.ref a) (.type "list") := by
  rcases h with (h | ⟨o, h⟩) | ⟨o, its, n, h, c, _⟩
  · exact .base (.lst h)
  · exact .base (.frz h)
  · exact .kList h c
inductive It (K : PySem.W.Frag) (H : Hp) : V → Ds → Prop where
  | txt (l : List Nat) (h : l.length ≤ 1000) : It K H (.str (S l)) (.txt l)
  | num (i : Int) : It K H (.int i) (.num i)
  | non : It K H .non .oth
  | bl (b : Bool) : It K H (.bl b) .oth
  | lst {a : Addr} {xs : List V} (h : SqL K H a xs) : It K H (.ref a) .oth
  | tup {a : Addr} {xs : List V} (h : SqT K H a xs) : It K H (.ref a) .oth
  | dct {a : Addr} {kvs : List (Key × V)} (h : H a = some (.dK kvs)) : It K H (.ref a) .oth
theorem It.ext {K : PySem.W.Frag} {H H' : Hp} {x : V} {d : Ds} (h : It K H x d) (k : Ext H H') : It K H' x d := by
  cases h with
  | txt l h => exact .txt l h
  | num i => exact .num i
  | non => exact .non
  | bl b => exact .bl b
  | lst h => exact .lst (sqL_keep h fun o e => k _ o e)
  | tup h => exact .tup (sqT_keep h fun o e => k _ o e)
  | dct h => exact .dct (k _ _ h)
/-- no string at all -/
def NoStr (K : PySem.W.Frag) (H : Hp) (x : V) : Prop := ∃ t : String, TyX K H x (.type t) ∧ kitB t "str" = some false
theorem It.no {K : PySem.W.Frag} {H : Hp} {x : V} {d : Ds} (h : It K H x d) : (NoStr K H x ∧ d.chr = false ∧ d.cho = false) ∨ ∃ l, x = .str (S l) ∧ d = .txt l ∧ l.length ≤ 1000 := by
  cases h with
  | txt l h => exact .inr ⟨l, rfl, rfl, h⟩
  | num i => exact .inl ⟨⟨_, .base (.int i), by decide +kernel⟩, rfl, rfl⟩
  | non => exact .inl ⟨⟨_, .base .non, by decide +kernel⟩, rfl, rfl⟩
  | bl b => exact .inl ⟨⟨_, .base (.bl b), by decide +kernel⟩, rfl, rfl⟩
  | lst h => exact .inl ⟨⟨_, sqL_ty h, by decide +kernel⟩, rfl, rfl⟩
  | tup h => exact .inl ⟨⟨_, sqT_ty h, by decide +kernel⟩, rfl, rfl⟩
  | dct h => exact .inl ⟨⟨_, .base (.dK h), by decide +kernel⟩, rfl, rfl⟩
theorem fnOk_or {P : Program} {w : World} {K : PySem.W.Frag} {mg : Str → Option Value} {base : Heap} {CX : CXT} {k : Nat} {f : Addr} {fd : FuncData} {ps : List Str} {sp sp1 sp2 : Sp} (F1 : FnOk P w K mg base CX k f fd ps sp1) (F2 : FnOk P w K mg base CX k f fd ps sp2)
    (h : ∀ vs H Q E, sp vs H Q E → sp1 vs H Q E ∨ sp2 vs H Q E) : FnOk P w K mg base CX k f fd ps sp :=
  ⟨fun vs H Q E x => (h vs H Q E x).elim (F1.len vs H Q E) (F2.len vs H Q E), fun A outer s H args us vs Q E hr e0 hb r x => (h vs H Q E x).elim (F1.run A outer s H args us vs Q E hr e0 hb r) (F2.run A outer s H args us vs Q E hr e0 hb r)⟩
def spNoStr (K : PySem.W.Frag) : Sp := fun vs H Q _ => ∃ x, vs = [x] ∧ NoStr K H x ∧ Q (.bl false) H
def spCharE (K : PySem.W.Frag) : Sp := fun vs H Q _ => ∃ x d, vs = [x] ∧ It K H x d ∧ Q (.bl d.chr) H
def spChoiceE (K : PySem.W.Frag) : Sp := fun vs H Q _ => ∃ x d, vs = [x] ∧ It K H x d ∧ ∀ H', Ext H H' → Q (.bl d.cho) H'
def spIntE (K : PySem.W.Frag) : Sp := fun vs H Q _ => ∃ x d, vs = [x] ∧ It K H x d ∧ Q (.bl d.isI) H
theorem nodup_sgns (l : List Nat) : (sgnsOf (S l)).Nodup ↔ l.Nodup := by
  have e : sgnsOf (S l) = l.map fun c => (⟨#[c]⟩ : Str) := by unfold sgnsOf; rfl
  rw [e]
  unfold List.Nodup
  rw [List.pairwise_map]
  refine ⟨fun h => h.imp fun z q => z (by rw [q]), fun h => h.imp fun z q => z ?_⟩
  injection q with q
  have := congrArg Array.toList q
  simpa using this
section
variable {P : Program} {w : World} {K : PySem.W.Frag} {mg : Str → Option Value} {base : Heap}
theorem ok_isCharN {f : Addr} {fd : FuncData} (F : Fun K "is_character" "is_character" sIsCharacter f fd) (T : Nms mg) (C : Cst mg) : FnOk P w K mg base CX0 1 f fd ["value"] (spNoStr K) := by
  refine F.ok scIsCharacter (fun vs H Q E h => ?_) (fun cdv A outer s H vs Q E hr h => ?_)
  · obtain ⟨l, rfl, _⟩ := h
    rfl
  · obtain ⟨x, rfl, ⟨t, ty, kb⟩, q⟩ := h
    have nd := scIsCharacter.nd
    obtain ⟨tc, hc⟩ := C.chars
    refine ⟨_, pss_one (ps_ret (pe_and (pe_callB call_isi (by rfl) T.isi (by decide +kernel) (pa_cons (pv 0) (pa_cons (pe_bltn (v := .ty "str") (by rfl) T.str (by decide +kernel) rfl) pa_nil)))
      (pe_and (pe_cmpR op_eq (pe_callB call_len_str (by rfl) T.len PySem.boot_len (pa_cons (pv 0) pa_nil)) pe_int (nomark _)) (pe_one (pe_cmpR op_in_sign (pv 0) (pe_glob (v := .str _) rfl hc ⟨_, rfl⟩) rfl))))), ?_⟩
    exact ⟨_, rfl, _, _, _, _, false, rfl, .ty "str", ty, kit_ty kb, false, rfl, iteF q⟩
theorem ok_charE {f : Addr} {fd : FuncData} (F : Fun K "is_character" "is_character" sIsCharacter f fd) (T : Nms mg) (C : Cst mg) : FnOk P w K mg base CX0 1 f fd ["value"] (spCharE K) :=
  fnOk_or (ok_isChar F T C) (ok_isCharN F T C) fun vs H Q E ⟨x, d, e, h, q⟩ => by
    subst e
    rcases h.no with ⟨n, e, _⟩ | ⟨l, rfl, rfl, hl⟩
    · rw [e] at q; exact .inr ⟨x, rfl, n, q⟩
    · exact .inl ⟨l, rfl, hl, q⟩
theorem ok_intE {f : Addr} {fd : FuncData} (F : Fun K "is_integer" "is_integer" sIsInteger f fd) (T : Nms mg) : FnOk P w K mg base CX0 1 f fd ["value"] (spIntE K) := by
  refine F.ok scIsInteger (fun vs H Q E h => ?_) (fun cdv A outer s H vs Q E hr h => ?_)
  · obtain ⟨x, d, rfl, _⟩ := h
    rfl
  · obtain ⟨x, d, rfl, hx, q⟩ := h
    refine ⟨_, pss_one (ps_ret (pe_and (pe_callB call_isi (by rfl) T.isi (by decide +kernel) (pa_cons (pv 0) (pa_cons (pe_bltn (v := .ty "int") (by rfl) T.int (by decide +kernel) rfl) pa_nil)))
      (pe_one (pe_not (pe_callB call_isi (by rfl) T.isi (by decide +kernel) (pa_cons (pv 0) (pa_cons (pe_bltn (v := .ty "bool") (by rfl) T.bool (by decide +kernel) rfl) pa_nil))))))), ?_⟩
    cases hx with
    | num i =>
      refine ⟨_, rfl, _, _, _, _, true, rfl, .ty "int", .base (.int i), kit_ty (by decide +kernel), true, rfl, iteT ?_⟩
      exact ⟨_, rfl, _, _, _, _, false, rfl, .ty "bool", .base (.int i), kit_ty (by decide +kernel), false, rfl, q⟩
    | bl b =>
      refine ⟨_, rfl, _, _, _, _, true, rfl, .ty "int", .base (.bl b), kit_ty (by decide +kernel), true, rfl, iteT ?_⟩
      exact ⟨_, rfl, _, _, _, _, true, rfl, .ty "bool", .base (.bl b), kit_ty (by decide +kernel), true, rfl, q⟩
    | txt l h => exact ⟨_, rfl, _, _, _, _, false, rfl, .ty "int", .base (.str _), kit_ty (by decide +kernel), false, rfl, iteF q⟩
    | non => exact ⟨_, rfl, _, _, _, _, false, rfl, .ty "int", .base .non, kit_ty (by decide +kernel), false, rfl, iteF q⟩
    | lst h => exact ⟨_, rfl, _, _, _, _, false, rfl, .ty "int", sqL_ty h, kit_ty (by decide +kernel), false, rfl, iteF q⟩
    | tup h => exact ⟨_, rfl, _, _, _, _, false, rfl, .ty "int", sqT_ty h, kit_ty (by decide +kernel), false, rfl, iteF q⟩
    | dct h => exact ⟨_, rfl, _, _, _, _, false, rfl, .ty "int", .base (.dK h), kit_ty (by decide +kernel), false, rfl, iteF q⟩
theorem ok_choiceE {f : Addr} {fd : FuncData} (F : Fun K "_is_choice" "_is_choice" sIsChoice f fd) (T : Nms mg) (C : Cst mg) (G : Cl P w K mg base 1 "is_character" spIsChar) : FnOk P w K mg base CX0 2 f fd ["value"] (spChoiceE K) := by
  refine F.ok scIsChoice (fun vs H Q E h => ?_) (fun cdv A outer s H vs Q E hr h => ?_)
  · obtain ⟨x, d, rfl, _⟩ := h
    rfl
  · obtain ⟨x, d, rfl, hx, q⟩ := h
    have nd := scIsChoice.nd
    obtain ⟨td, hd⟩ := C.drop
    refine ⟨_, pss_cons (ps_if (PW.pt (pw_or (pt_not (pt_val (pe_callB call_isi (by rfl) T.isi (by decide +kernel) (pa_cons (pv 0) (pa_cons (pe_bltn (v := .ty "str") (by rfl) T.str (by decide +kernel) rfl) pa_nil)))))
        (pw_or1 (pt_not (pt_chain op_le op_le pe_int (pe_callB call_len_str (by rfl) T.len PySem.boot_len (pa_cons (pv 0) pa_nil)) (pe_glob (v := .int 10) rfl hd ⟨_, rfl⟩)))))) (pss_one (ps_ret pe_bl)) pss_nil)
      (pss_one (ps_ret (pe_and (pe_cmpR op_eq (pe_lenSetX rfl rfl T.len rfl T.set (pv 0)) (pe_callB call_len_str (by rfl) T.len PySem.boot_len (pa_cons (pv 0) pa_nil)) (nomark _))
        (pe_one (pe_callB (cr_all rfl) (by rfl) T.all (by decide +kernel) (pa_cons (pe_lc (own := [("character", 1)]) (g := gName 1) (tt := tYes) rfl nd (pi_str (pv 0)) (blkOk_by (N := ["value", "character"]) (sc := defScope sIsChoice) (by decide +kernel)) (fun _ _ _ _ _ => pg_name (i := 1) nd rfl (Or.inl rfl)) (fun _ _ _ _ _ => pts_nil)
          (fun _ _ _ _ _ => pe_cl G hr (by decide) rfl (pa_cons (pv 1) pa_nil))) pa_nil)))))), ?_⟩
    rcases hx.no with ⟨⟨t, ty, kb⟩, _, e⟩ | ⟨cs, rfl, rfl, hl⟩
    · rw [e] at q
      exact ⟨_, rfl, _, _, _, _, false, rfl, .ty "str", ty, kit_ty kb, false, rfl, iteT (iteT (q H .refl))⟩
    refine ⟨_, rfl, _, _, _, _, true, rfl, .ty "str", .base (.str _), kit_ty (by decide +kernel), true, rfl, ?_⟩
    refine iteF ⟨_, rfl, _, rfl, by rw [S_len, sizeLine_eq]; omega, _, _, rfl, rfl, _, rfl, ?_⟩
    rw [S_len]
    have ech : (Ds.txt cs).cho = choB cs := rfl
    rw [ech] at q
    by_cases h1 : 1 ≤ cs.length
    case neg =>
      rw [decide_eq_false (show ¬ (1 : Int) ≤ (cs.length : Nat) by omega)]
      refine iteF ⟨_, rfl, iteT ?_⟩
      have e : choB cs = false := by unfold choB; rw [decide_eq_false h1]; rfl
      rw [e] at q; exact q H .refl
    rw [decide_eq_true (show (1 : Int) ≤ (cs.length : Nat) by omega)]
    refine iteT ⟨_, _, rfl, rfl, _, rfl, ?_⟩
    by_cases h2 : cs.length ≤ 10
    case neg =>
      rw [decide_eq_false (show ¬ ((cs.length : Nat) : Int) ≤ 10 by omega)]
      refine iteT ?_
      have e : choB cs = false := by unfold choB; rw [decide_eq_false h2, Bool.false_and, Bool.and_false]
      rw [e] at q; exact q H .refl
    rw [decide_eq_true (show ((cs.length : Nat) : Int) ≤ 10 by omega)]
    refine iteF ?_
    refine ⟨_, rfl, S cs, rfl, by show cs.length ≤ 1000; omega, _, rfl, _, rfl, by rw [S_len, sizeLine_eq]; omega, rfl, _, rfl, ?_⟩
    rw [S_len]
    have ls : (sgnsOf (S cs)).length = cs.length := by unfold sgnsOf; rw [List.length_map]
    have key : decide (V.int ((metS (sgnsOf (S cs)) (sgnsOf (S cs)).length).length : Nat) = V.int ((cs.length : Nat) : Int)) = decide cs.Nodup := by
      refine decide_eq_decide.mpr ⟨fun z => ?_, fun z => ?_⟩
      · injection z with z
        have z' : (metS (sgnsOf (S cs)) (sgnsOf (S cs)).length).length = (sgnsOf (S cs)).length := by omega
        have y := (metS_full (sgnsOf (S cs)) _ (Nat.le_refl _)).mp z'
        rw [List.take_length] at y
        exact (nodup_sgns cs).mp y
      · have y := (metS_full (sgnsOf (S cs)) _ (Nat.le_refl _)).mpr (by rw [List.take_length]; exact (nodup_sgns cs).mpr z)
        rw [y, ls]
    rw [key]
    by_cases h3 : cs.Nodup
    case neg =>
      rw [decide_eq_false h3]
      refine iteF ?_
      have e : choB cs = false := by unfold choB; rw [decide_eq_false h3, Bool.false_and, Bool.and_false, Bool.and_false]
      rw [e] at q; exact q H .refl
    rw [decide_eq_true h3]
    refine iteT ⟨_, rfl, _, rfl, fun D hD => lc_vals (fun c => V.bl (isChr [c])) (by omega) hD (fun c H2 acc Nx hc' k2 hacc hal nx => ⟨rfl, _, rfl, [c], rfl, by simp, acc, hacc, hal, nx _ upd_same (k2.new hD)⟩) fun H2 e2 k2 => ?_⟩
    refine ⟨D, cs.map (fun c => isChr [c]), rfl, SqL.of (by rw [List.map_map]; exact e2), ?_⟩
    have e : choB cs = (cs.map (fun c => isChr [c])).all id := by unfold choB; rw [decide_eq_true h1, decide_eq_true h2, decide_eq_true h3]; rfl
    rw [e] at q
    exact q H2 k2
end
end Pd

set_option maxHeartbeats 4000000
namespace Pd
open PySem PySem.Spec PyProof.Rows L2 SX
theorem at0 {x : V} {xs : List V} : atI (x :: xs) 0 = some x := atI_nat (j := 0) rfl
theorem at1 {x y : V} {xs : List V} : atI (x :: y :: xs) 1 = some y := atI_nat (j := 1) rfl
theorem at2 {x y z : V} {xs : List V} : atI (x :: y :: z :: xs) 2 = some z := atI_nat (j := 2) rfl
/-- what is_step tells of a tuple that begins with a string -/
def stpB (s : Str) (ds : List Ds) : Bool :=
  if V.str s = V.str "lower" then decide (ds.length = 0) else
  if V.str s = V.str "swap" then (match ds with
    | [a, b] => a.chr && b.chr
    | _ => false) else
  match ds with
  | [a] => if V.str s = V.str "drop" then a.cho else if V.str s = V.str "lead" ∨ V.str s = V.str "once" then a.chr else decide (V.str s = V.str "cut") && (a.isI && a.cut)
  | _ => false
inductive Its (K : PySem.W.Frag) (H : Hp) : List V → List Ds → Prop where
  | nil : Its K H [] []
  | cons {x : V} {d : Ds} {xs : List V} {ds : List Ds} (h : It K H x d) (t : Its K H xs ds) : Its K H (x :: xs) (d :: ds)
theorem Its.ext {K : PySem.W.Frag} {H H' : Hp} (k : Ext H H') : ∀ {xs : List V} {ds : List Ds}, Its K H xs ds → Its K H' xs ds
  | _, _, .nil => .nil
  | _, _, .cons h t => .cons (h.ext k) (t.ext k)
theorem Its.len {K : PySem.W.Frag} {H : Hp} : ∀ {xs : List V} {ds : List Ds}, Its K H xs ds → xs.length = ds.length
  | _, _, .nil => rfl
  | _, _, .cons h t => congrArg (· + 1) t.len
/-- what is no step -/
inductive NoStp (K : PySem.W.Frag) (H : Hp) : V → Prop where
  | kind {x : V} {t : String} (h : TyX K H x (.type t)) (n : kitB t "tuple" = some false) : NoStp K H x
  | nil {a : Addr} (h : SqT K H a []) : NoStp K H (.ref a)
  | fst {a : Addr} {x : V} {xs : List V} (h : SqT K H a (x :: xs)) (n : NoStr K H x) : NoStp K H (.ref a)
  | bad {a : Addr} {s : Str} {xs : List V} {ds : List Ds} (h : SqT K H a (.str s :: xs)) (i : Its K H xs ds) (n : stpB s ds = false) : NoStp K H (.ref a)
def spStepN (K : PySem.W.Frag) : Sp := fun vs H Q _ => ∃ x, vs = [x] ∧ NoStp K H x ∧ ∀ H', Ext H H' → Q (.bl false) H'
section
variable {P : Program} {w : World} {K : PySem.W.Frag} {mg : Str → Option Value} {base : Heap}
theorem ok_stepN {f : Addr} {fd : FuncData} (F : Fun K "is_step" "is_step" sIsStep f fd) (T : Nms mg) (C : Cst mg) (G : Cl P w K mg base 1 "is_character" (spCharE K)) (G2 : Cl P w K mg base 2 "_is_choice" (spChoiceE K)) (G3 : Cl P w K mg base 1 "is_integer" (spIntE K)) : FnOk P w K mg base CX0 3 f fd ["value"] (spStepN K) := by
  refine F.ok scIsStep (fun vs H Q E h => ?_) (fun cdv A outer s H vs Q E hr h => ?_)
  · obtain ⟨x, rfl, _⟩ := h
    rfl
  · obtain ⟨x, rfl, hx, q⟩ := h
    have nd := scIsStep.nd
    obtain ⟨tc, hc⟩ := C.cut
    refine ⟨_, pss_cons (ps_if (PW.pt (pw_or (pt_not (pt_val (pe_callB call_isi (by rfl) T.isi (by decide +kernel) (pa_cons (pv 0) (pa_cons (pe_bltn (v := .ty "tuple") (by rfl) T.tuple (by decide +kernel) rfl) pa_nil)))))
        (pw_or (pt_cmpR op_eq (pe_callB call_len_seq (by rfl) T.len PySem.boot_len (pa_cons (pv 0) pa_nil)) pe_int (nomark _))
        (pw_or1 (pt_not (pt_val (pe_callB call_isi (by rfl) T.isi (by decide +kernel) (pa_cons (pe_ix ix_tup (pv 0) pe_int (fun _ _ => rfl)) (pa_cons (pe_bltn (v := .ty "str") (by rfl) T.str (by decide +kernel) rfl) pa_nil))))))))) (pss_one (ps_ret pe_bl)) pss_nil)
      (pss_cons (ps_set (i := 1) nd rfl (Or.inl rfl) (pe_ix ix_tup (pv 0) pe_int (fun _ _ => rfl)))
      (pss_cons (ps_if (pt_cmpR op_eq (pv 1) pe_str (nomark _)) (pss_one (ps_ret (pe_cmpR op_eq (pe_callB call_len_seq (by rfl) T.len PySem.boot_len (pa_cons (pv 0) pa_nil)) pe_int (nomark _)))) pss_nil)
      (pss_cons (ps_if (pt_cmpR op_eq (pv 1) pe_str (nomark _)) (pss_one (ps_ret (pe_and (pe_cmpR op_eq (pe_callB call_len_seq (by rfl) T.len PySem.boot_len (pa_cons (pv 0) pa_nil)) pe_int (nomark _))
        (pe_and (pe_cl G hr (by decide) rfl (pa_cons (pe_ix ix_tup (pv 0) pe_int (fun _ _ => rfl)) pa_nil)) (pe_one (pe_cl G hr (by decide) rfl (pa_cons (pe_ix ix_tup (pv 0) pe_int (fun _ _ => rfl)) pa_nil))))))) pss_nil)
      (pss_cons (ps_if (pt_cmpR op_ne (pe_callB call_len_seq (by rfl) T.len PySem.boot_len (pa_cons (pv 0) pa_nil)) pe_int (nomark _)) (pss_one (ps_ret pe_bl)) pss_nil)
      (pss_cons (ps_if (pt_cmpR op_eq (pv 1) pe_str (nomark _)) (pss_one (ps_ret (pe_cl G2 hr (by decide) rfl (pa_cons (pe_ix ix_tup (pv 0) pe_int (fun _ _ => rfl)) pa_nil)))) pss_nil)
      (pss_cons (ps_if (PW.pt (pw_or (pt_cmpR op_eq (pv 1) pe_str (nomark _)) (pw_or1 (pt_cmpR op_eq (pv 1) pe_str (nomark _))))) (pss_one (ps_ret (pe_cl G hr (by decide) rfl (pa_cons (pe_ix ix_tup (pv 0) pe_int (fun _ _ => rfl)) pa_nil)))) pss_nil)
      (pss_one (ps_ret (pe_and (pe_cmpR op_eq (pv 1) pe_str (nomark _)) (pe_and (pe_cl G3 hr (by decide) rfl (pa_cons (pe_ix ix_tup (pv 0) pe_int (fun _ _ => rfl)) pa_nil))
        (pe_one (pe_chain op_le op_le pe_int (pe_ix ix_tup (pv 0) pe_int (fun _ _ => rfl)) (pe_glob (v := .int 9) rfl hc ⟨_, rfl⟩))))))))))))), ?_⟩
    cases hx with
    | @kind x t ty kb => exact ⟨_, rfl, _, _, _, _, false, rfl, .ty "tuple", ty, kit_ty kb, false, rfl, iteT (iteT (q H .refl))⟩
    | @nil a h =>
      refine ⟨_, rfl, _, _, _, _, true, rfl, .ty "tuple", sqT_ty h, kit_ty (by decide +kernel), true, rfl, iteF ?_⟩
      exact ⟨_, rfl, a, _, rfl, .inr h, rfl, true, rfl, iteT (iteT (q H .refl))⟩
    | @fst a x xs h n =>
      obtain ⟨t, ty, kb⟩ := n
      have e0 : decide (V.int (((x :: xs).length : Nat) : Int) = V.int 0) = false := decide_eq_false fun z => by injection z with z; rw [List.length_cons] at z; omega
      refine ⟨_, rfl, _, _, _, _, true, rfl, .ty "tuple", sqT_ty h, kit_ty (by decide +kernel), true, rfl, iteF ?_⟩
      refine ⟨_, rfl, a, _, rfl, .inr h, rfl, _, rfl, ?_⟩
      rw [e0]
      exact iteF ⟨_, rfl, a, _, 0, _, rfl, rfl, h, at0, _, _, _, _, false, rfl, .ty "str", ty, kit_ty kb, false, rfl, iteT (q H .refl)⟩
    | @bad a s xs ds h its n =>
      have e0 : decide (V.int (((V.str s :: xs).length : Nat) : Int) = V.int 0) = false := decide_eq_false fun z => by injection z with z; rw [List.length_cons] at z; omega
      have ll := its.len
      refine ⟨_, rfl, _, _, _, _, true, rfl, .ty "tuple", sqT_ty h, kit_ty (by decide +kernel), true, rfl, iteF ?_⟩
      refine ⟨_, rfl, a, _, rfl, .inr h, rfl, _, rfl, ?_⟩
      rw [e0]
      refine iteF ⟨_, rfl, a, _, 0, _, rfl, rfl, h, at0, _, _, _, _, true, rfl, .ty "str", .base (.str _), kit_ty (by decide +kernel), true, rfl, ?_⟩
      refine iteF ⟨_, rfl, a, _, 0, _, rfl, rfl, h, at0, ?_⟩
      -- lower
      refine ⟨_, rfl, rfl, _, rfl, ite2 (fun hl => ?_) (fun hl => ?_)⟩
      · replace hl := of_decide_eq_true hl
        refine ⟨_, rfl, a, _, rfl, .inr h, rfl, ?_⟩
        unfold stpB at n
        rw [if_pos hl] at n
        have e : decide (V.int (((V.str s :: xs).length : Nat) : Int) = V.int 1) = false := decide_eq_false fun z => by
          injection z with z
          rw [List.length_cons] at z
          exact of_decide_eq_false n (by omega)
        rw [e]
        exact q H .refl
      replace hl : ¬ V.str s = V.str "lower" := fun z => hl (decide_eq_true z)
      unfold stpB at n
      rw [if_neg hl] at n
      -- swap
      refine ⟨_, rfl, rfl, _, rfl, ite2 (fun hs => ?_) (fun hs => ?_)⟩
      · replace hs := of_decide_eq_true hs
        rw [if_pos hs] at n
        refine ⟨_, rfl, a, _, rfl, .inr h, rfl, _, rfl, ?_⟩
        have no3 : xs.length ≠ 2 → decide (V.int (((V.str s :: xs).length : Nat) : Int) = V.int 3) = false := fun l => decide_eq_false fun z => by
          injection z with z
          rw [List.length_cons] at z
          omega
        cases its with
        | nil => rw [no3 (by decide)]; exact iteF (q H .refl)
        | @cons x d xs ds hx t =>
          cases t with
          | nil => rw [no3 (by show 1 ≠ 2; decide)]; exact iteF (q H .refl)
          | @cons y e ys es hy t2 =>
            cases t2 with
            | cons _ t3 => rw [no3 (by simp only [List.length_cons]; omega)]; exact iteF (q H .refl)
            | nil =>
              clear no3
              have y3 : decide (V.int (([V.str s, x, y].length : Nat) : Int) = V.int 3) = true := decide_eq_true rfl
              rw [y3]
              refine iteT ⟨_, rfl, a, _, 1, _, rfl, rfl, h, at1, x, d, rfl, hx, _, rfl, ?_⟩
              replace n : (d.chr && e.chr) = false := n
              cases hd : d.chr with
              | false => exact iteF (q H .refl)
              | true =>
                rw [hd, Bool.true_and] at n
                refine iteT ⟨_, rfl, a, _, 2, _, rfl, rfl, h, at2, y, e, rfl, hy, ?_⟩
                rw [n]
                exact q H .refl
      replace hs : ¬ V.str s = V.str "swap" := fun z => hs (decide_eq_true z)
      rw [if_neg hs] at n
      -- two
      refine ⟨_, rfl, a, _, rfl, .inr h, rfl, _, rfl, ?_⟩
      have no2 : xs.length ≠ 1 → decide (V.int (((V.str s :: xs).length : Nat) : Int) = V.int 2) = false := fun l => decide_eq_false fun z => by
        injection z with z
        rw [List.length_cons] at z
        omega
      by_cases l1 : xs.length = 1
      case neg =>
        rw [no2 l1]
        exact iteT (q H .refl)
      cases its with
      | nil => exact absurd l1 (by decide)
      | @cons x d xs ds hx t =>
        cases t with
        | cons _ t2 => exact absurd l1 (by simp only [List.length_cons]; omega)
        | nil =>
          clear no2
          have y2 : decide (V.int (([V.str s, x].length : Nat) : Int) = V.int 2) = true := decide_eq_true rfl
          rw [y2]
          refine iteF ?_
          replace n : (if V.str s = V.str "drop" then d.cho else if V.str s = V.str "lead" ∨ V.str s = V.str "once" then d.chr else decide (V.str s = V.str "cut") && (d.isI && d.cut)) = false := n
          refine ⟨_, rfl, rfl, _, rfl, ite2 (fun h1 => ?_) (fun h1 => ?_)⟩
          · rw [if_pos (of_decide_eq_true h1)] at n
            refine ⟨_, rfl, a, _, 1, _, rfl, rfl, h, at1, x, d, rfl, hx, fun H' k => ?_⟩
            rw [n]; exact q H' k
          rw [if_neg fun z => h1 (decide_eq_true z)] at n
          have chr : (V.str s = V.str "lead" ∨ V.str s = V.str "once") → d.chr = false := fun z => by rw [if_pos z] at n; exact n
          refine ⟨_, rfl, rfl, _, rfl, ?_⟩
          by_cases h2 : V.str s = V.str "lead"
          · rw [decide_eq_true h2]
            refine iteT (iteT ⟨_, rfl, a, _, 1, _, rfl, rfl, h, at1, x, d, rfl, hx, ?_⟩)
            rw [chr (.inl h2)]; exact q H .refl
          rw [decide_eq_false h2]
          refine iteF ⟨_, rfl, rfl, _, rfl, ?_⟩
          by_cases h3 : V.str s = V.str "once"
          · rw [decide_eq_true h3]
            refine iteT ⟨_, rfl, a, _, 1, _, rfl, rfl, h, at1, x, d, rfl, hx, ?_⟩
            rw [chr (.inr h3)]; exact q H .refl
          rw [decide_eq_false h3]
          refine iteF ?_
          rw [if_neg (fun z => z.elim h2 h3)] at n
          refine ⟨_, rfl, rfl, _, rfl, ?_⟩
          cases h4 : decide (V.str s = V.str "cut") with
          | false => exact iteF (q H .refl)
          | true =>
            rw [h4, Bool.true_and] at n
            refine iteT ⟨_, rfl, a, _, 1, _, rfl, rfl, h, at1, x, d, rfl, hx, _, rfl, ?_⟩
            cases h5 : d.isI with
            | false => exact iteF (q H .refl)
            | true =>
              rw [h5, Bool.true_and] at n
              cases hx with
              | num i =>
                refine iteT ⟨_, rfl, a, _, 1, _, rfl, rfl, h, at1, _, _, rfl, rfl, _, rfl, ?_⟩
                replace n : (decide (1 ≤ i) && decide (i ≤ 9)) = false := n
                cases h6 : decide ((1 : Int) ≤ i) with
                | false => exact iteF (q H .refl)
                | true =>
                  rw [h6, Bool.true_and] at n
                  refine iteT ⟨_, _, rfl, rfl, ?_⟩
                  show Q (V.bl (decide (i ≤ 9))) H
                  rw [n]; exact q H .refl
              | txt l h => exact absurd h5 Bool.false_ne_true
              | non => exact absurd h5 Bool.false_ne_true
              | bl b => exact absurd h5 Bool.false_ne_true
              | lst h => exact absurd h5 Bool.false_ne_true
              | tup h => exact absurd h5 Bool.false_ne_true
              | dct h => exact absurd h5 Bool.false_ne_true
end
end Pd

set_option maxHeartbeats 4000000
namespace Pd
open PySem PySem.Spec PyProof.Rows L2
/-- isinstance(e, (c1, c2, ..)), e the exception that the suite holds -/
def rIsET (K : PySem.W.Frag) (D a : Addr) : List V → Hp → VK → Prop := fun xs H Q => ∃ (tp : Addr) (cs : List V) (us : List Value) (b : Bool), xs = [.ref a, .ref tp] ∧ H tp = some (.tup cs) ∧ Paired ClsV cs us ∧ PySem.W.kitAny K (.ref D) us = some b ∧ Q (.bl b) H
theorem call_isET {X : Cx} {a D : Addr} {oe : Obj} {pn : List (Addr × Obj)} (C : ExcC X.K D) (hz : Zc (.ref D) none oe) (hf : ∃ vs, oe.data = .fields vs) : CallR (X.suite a ((a, oe) :: pn)) (.builtin "isinstance") (rIsET X.K D a) := by
  intro pins s σ H xs us Q I r h
  obtain ⟨tp, cs, ws, b, rfl, hT, k, e, q⟩ := h
  obtain ⟨u1, u2, rfl, r1, r2⟩ := vals2 r
  cases (show u1 = Value.ref a from r1)
  cases (show u2 = Value.ref tp from r2)
  obtain ⟨_, its, rv, o, h1, h2, n, h3⟩ := (show ObjOk X.prog X.w H s.heap tp (.tup cs) from I.hok tp _ hT)
  have e3 := ClsV.all k rv
  subst e3
  obtain ⟨oc, od, dt, sl⟩ := o
  simp only at h2 h3
  subst h2 h3
  obtain ⟨hget, _⟩ := I.pin (a, oe) (List.mem_append.mpr (.inl List.mem_cons_self))
  obtain ⟨vs, hv⟩ := hf
  have J : PySem.W.InstAt s.heap a oe D none := by
    obtain ⟨oc, od, oda, osl⟩ := oe
    obtain ⟨z1, z2⟩ := hz
    dsimp only at z1 z2 hv
    subst z1 z2 hv
    exact ⟨hget, rfl, rfl, trivial⟩
  exact PySem.W.kia_tup (PySem.W.handS_kitx_exc C.hg C.hk C.hs C.hd C.ha C.hn C.ht C.hm) I.kIn J h1 e (fun z => nomatch z) fun tk => ⟨.bl b, H, I.kept (t' := tk) fun _ _ z => z, rfl, q⟩
/-- none of some classes -/
theorem kitAny_no {K : PySem.W.Frag} {D : Value} : ∀ {us : List Value}, (∀ u ∈ us, PySem.W.kitOne K D u = some false) → PySem.W.kitAny K D us = some false
  | [], _ => rfl
  | u :: us, h => by
    unfold PySem.W.kitAny
    rw [h u List.mem_cons_self]
    exact kitAny_no fun v hv => h v (List.mem_cons_of_mem _ hv)
/-- o.m(e, ..) of an own class where it may raise, in a try -/
def tMethX (C : Addr) (m : Str) (sp : Sp) (E : L2.St → XK) (ta : TE) (t : TA) : TE := fun σ H Q => ta σ H fun x H1 => ∃ (a dx : Addr) (fs : List (Str × V)), x = .ref a ∧ H1 a = some (.ins C dx fs) ∧ fs.lookup m = none ∧ t σ H1 fun vs H2 => sp (.ref a :: vs) H2 Q (E σ)
theorem pe_methX {X : Cx} {CX : CXT} {k : Nat} {C g : Addr} {fd : FuncData} {ps : List Str} {m : Str} {sp : Sp} {E : L2.St → XK} {o e : Expr} {es : List Expr} {ta : TE} {t : TA} {apos pos : Pos} {pl : Sem Bool} (he : PE X o ta) (c : Cls X.K C) (hm : Meth X.K C m g)
    (F : FnOk X.prog X.w X.K X.mg X.base CX k g fd ps sp) (hr : Room k X.A) (hb : Binds X.K fd ps []) (hx : ∀ σ, PassesAt CX X σ (E σ)) (ha : PA X (e :: es) t) (hst : starEach (e :: es) X.env = (false, eval e X.env) :: starEach es X.env := by rfl)
    (hpl : (backTo pos (starEach es X.env)).any (·.1) = false := by rfl)
    (ht : eval (.Call (.Attribute o m apos) (e :: es) [] pos) X.env = (do let ov ← eval o X.env; standAt apos.atName; let (f, first) ← holding [ov] (getMethod ov m pl); callWith pos f first (backTo pos (starEach (e :: es) X.env)) (backToKw pos (keywordEach [] X.env))) := by rfl) :
    PE X (.Call (.Attribute o m apos) (e :: es) [] pos) (tMethX C m sp E ta t) := by
  constructor
  intro pins s σ H Q I h
  refine PySem.W.methodCall_KW (pl := pl) (thn (he.run pins s σ H _ I h) ?_) ht
  rintro u s1 ⟨x, H1, I1, rx, a, dx, fs, rfl, ea, l, q⟩
  cases (show u = Value.ref a from rx)
  refine getmeth_ok I1 ea c hm l (PySem.W.callWith_K (first := [.ref a]) (h₀ := X.base) I.ok.mod.kin hm.kp (thn (ha.run pos pins s1 σ H1 _ I1 q) ?_) hst hpl)
  rintro us s2 ⟨vs, H2, I2, r, q2⟩
  exact ⟨I2.kIn, run_fnS (us := .ref a :: us) (vs := .ref a :: vs) F hr hb (hx σ) I2 (.cons rfl r) q2⟩
end Pd

set_option maxHeartbeats 4000000
namespace Pd
open PySem PySem.Spec PyProof.Rows L2
/-! ### isinstance of a caught error that has a field -/
theorem excD_at {X : Cx} {a D dd : Addr} {oe : Obj} {pn pins : List (Addr × Obj)} {σ : L2.St} {H : Hp} {s : Shared} {fs : List (Str × V)} (hz : Zc (.ref D) (some dd) oe) (hf : ∃ vs, oe.data = .fields vs) (I : Inv (X.suite a ((a, oe) :: pn)) pins σ H s) (hd : H dd = some (.xd fs)) :
    ∃ od, PySem.W.InstAt s.heap a oe D (some od) := by
  obtain ⟨ha, _⟩ := I.pin (a, oe) (List.mem_append_left _ List.mem_cons_self)
  obtain ⟨vs, hv⟩ := hf
  obtain ⟨mA, hns, hr⟩ := (show ObjOk X.prog X.w H s.heap dd (.xd fs) from I.hok dd _ hd)
  obtain ⟨od, ho, hl⟩ := lookIn_ns hns
  exact ⟨od, ha, hz.1, by unfold PySem.W.notCls; rw [hv] <;> rfl, by rw [hz.2]; exact ho⟩
/-- isinstance(e, c) -/
def rIsD (K : PySem.W.Frag) (D a dd : Addr) : List V → Hp → VK → Prop := fun xs H Q => ∃ (c : V) (cv : Value) (b : Bool) (fs : List (Str × V)), xs = [.ref a, c] ∧ H dd = some (.xd fs) ∧ (∀ u, RelV c u → u = cv) ∧ PySem.W.kitOne K (.ref D) cv = some b ∧ Q (.bl b) H
theorem call_isD {X : Cx} {a D dd : Addr} {oe : Obj} {pn : List (Addr × Obj)} (C : ExcC X.K D) (hz : Zc (.ref D) (some dd) oe) (hf : ∃ vs, oe.data = .fields vs) : CallR (X.suite a ((a, oe) :: pn)) (.builtin "isinstance") (rIsD X.K D a dd) := by
  intro pins s σ H xs us Q I r h
  obtain ⟨c, cv, b, fs, rfl, hd, hcv, e, q⟩ := h
  obtain ⟨u1, u2, rfl, r1, r2⟩ := vals2 r
  cases (show u1 = Value.ref a from r1)
  obtain rfl := hcv _ r2
  obtain ⟨od, J⟩ := excD_at hz hf I hd
  have cl : (PySem.W.clsIn X.K D).isSome = true := by
    obtain ⟨cd, hc, _⟩ := PySem.W.any_some C.hd
    rw [hc]; rfl
  exact PySem.W.kia_one (PySem.W.kitx_exc cl C.hg C.hk C.hs C.ha C.hn C.ht C.hm) I.kIn J e (fun z => nomatch z) fun tk => ⟨.bl b, H, I.kept (t' := tk) fun _ _ z => z, rfl, q⟩
/-- isinstance(e, (c1, c2, ..)) -/
def rIsDT (K : PySem.W.Frag) (D a dd : Addr) : List V → Hp → VK → Prop := fun xs H Q => ∃ (tp : Addr) (cs : List V) (us : List Value) (b : Bool) (fs : List (Str × V)), xs = [.ref a, .ref tp] ∧ H dd = some (.xd fs) ∧ H tp = some (.tup cs) ∧ Paired ClsV cs us ∧ PySem.W.kitAny K (.ref D) us = some b ∧ Q (.bl b) H
theorem call_isDT {X : Cx} {a D dd : Addr} {oe : Obj} {pn : List (Addr × Obj)} (C : ExcC X.K D) (hz : Zc (.ref D) (some dd) oe) (hf : ∃ vs, oe.data = .fields vs) : CallR (X.suite a ((a, oe) :: pn)) (.builtin "isinstance") (rIsDT X.K D a dd) := by
  intro pins s σ H xs us Q I r h
  obtain ⟨tp, cs, ws, b, fs, rfl, hd, hT, k, e, q⟩ := h
  obtain ⟨u1, u2, rfl, r1, r2⟩ := vals2 r
  cases (show u1 = Value.ref a from r1)
  cases (show u2 = Value.ref tp from r2)
  obtain ⟨_, its, rv, o, h1, h2, n, h3⟩ := (show ObjOk X.prog X.w H s.heap tp (.tup cs) from I.hok tp _ hT)
  have e3 := ClsV.all k rv
  subst e3
  obtain ⟨oc, od', dt, sl⟩ := o
  simp only at h2 h3
  subst h2 h3
  obtain ⟨od, J⟩ := excD_at hz hf I hd
  have cl : (PySem.W.clsIn X.K D).isSome = true := by
    obtain ⟨cd, hc, _⟩ := PySem.W.any_some C.hd
    rw [hc]; rfl
  exact PySem.W.kia_tup (PySem.W.kitx_exc cl C.hg C.hk C.hs C.ha C.hn C.ht C.hm) I.kIn J h1 e (fun z => nomatch z) fun tk => ⟨.bl b, H, I.kept (t' := tk) fun _ _ z => z, rfl, q⟩
/-! ### f(k = v, ..) where it may raise, in a try -/
def tCallKX (m : Nat) (sp : Sp) (gV : List V → List V → List V) (E : L2.St → XK) (tk : TA) : TE := fun σ H Q => tk σ H fun zs H2 => zs.length = m ∧ sp (gV [] zs) H2 Q (E σ)
theorem pe_callKX {X : Cx} {CX : CXT} {k : Nat} {f : Addr} {fd : FuncData} {ps ks : List Str} {sp : Sp} {E : L2.St → XK} {x : Str} {p pos : Pos} {kws : List Keyword} {tk : TA} {g : List Value → List Value → List Value} {gV : List V → List V → List V}
    (F : FnOk X.prog X.w X.K X.mg X.base CX k f fd ps sp) (hr : Room k X.A) (hg : Gl X x) (hm : X.mg x = some (.ref f)) (hk : PySem.W.keepIn X.K (.ref f) = true) (hb : KBn X.K fd ps 0 ks g gV) (hx : ∀ σ, PassesAt CX X σ (E σ)) (hkw : PK X kws tk)
    (hall : (backToKw pos (keywordEach kws X.env)).all (·.1.isSome) = true := by rfl) (hks : (backToKw pos (keywordEach kws X.env)).filterMap (·.1) = ks := by rfl) (hdb : (x == ("__debug__" : Str)) = false := by decide)
    (hpl : ((backTo pos (starEach [] X.env)).any (·.1) || (backToKw pos (keywordEach kws X.env)).any (·.1.isNone)) = false := by rfl) :
    PE X (.Call (.Name x p) [] kws pos) (tCallKX ks.length sp gV E tk) := by
  constructor
  intro pins s σ H Q I h
  refine wpAny_Call_Name_kw (ld_glob I hg hm ?_ hdb)
  refine PySem.W.callWith_KW0 (h₀ := X.base) I.ok.mod.kin hk hall ?_ hpl
  refine thn (hkw.run pos pins s σ H _ I h) fun ws s2 ⟨zs, H2, I2, rz, l2, q2⟩ => ⟨I2.kIn, ?_⟩
  rw [hks]
  have r2 := hb.rel (.nil : Vals [] []) rz
  refine wpAny_call (codeAny_mono (F.run X.A X.stack s2 H2 ⟨[], ks.zip ws⟩ (g [] ws) (gV [] zs) Q (E σ) hr I2.env0 (hb.to s2 [] ws I2.kIn rfl (rz.length.symm.trans l2)) r2 q2) fun r s' hq => ?_)
  cases r with
  | error e => exact hx σ pins H2 s2 e s' I2 hq
  | ok fl =>
    cases fl with
    | ret u => exact I2.after hq
    | next => exact False.elim hq
    | brk => exact False.elim hq
    | cont => exact False.elim hq
/-! ### x != x: a list and its copy, one tuple, one empty dict, plain values -/
/-- an item that is seen to be equal to itself -/
def selfB : V → Bool
  | .non => true | .bl _ => true | .int _ => true | .str _ => true | .ref _ => true
  | _ => false
theorem eq_self {A : Around} {s : Shared} {x : V} {u v : Value} (h : selfB x = true) (r1 : RelV x u) (r2 : RelV x v) : SeqAt.EqAt A s u v true := by
  cases x with
  | non => cases r1; cases r2; exact SeqAt.EqAt.same _
  | bl b => cases r1; cases r2; exact SeqAt.EqAt.same _
  | int i =>
    obtain ⟨t, rfl⟩ := r1
    obtain ⟨t', rfl⟩ := r2
    have z := SeqAt.EqAt.int_int (A := A) (s := s) i t i t'
    rwa [beq_self_eq_true] at z
  | str y =>
    obtain ⟨t, rfl⟩ := r1
    obtain ⟨t', rfl⟩ := r2
    have z := SeqAt.EqAt.str_str (A := A) (s := s) y t y t'
    rwa [beq_self_eq_true] at z
  | ref a => cases (show u = Value.ref a from r1); cases (show v = Value.ref a from r2); exact SeqAt.EqAt.same _
  | _ => exact absurd (show false = true from h) Bool.false_ne_true
theorem sub_dd : isSubtype (.type "dict") (.type "dict") = pure true := by rw [isSubtype_type]; kernel_rfl
theorem dictNe_self {a : Addr} {o : Obj} {ep : Nat} : Meets (Builtin.«dict.__ne__» ⟨[.ref a, .ref a], []⟩) (fun _ R s => (s.heap.get? a = some o ∧ o.cls = .type "dict" ∧ o.data = .dict #[] ep ∧ (a == sysModules) = false) ∧ R (.ok (.ret (.bool false))) s) :=
  .of_wp fun prog w A R s h => by
    obtain ⟨hp, g, d, tk, os⟩ := s
    obtain ⟨⟨ho, hc, hd, hs⟩, h⟩ := h
    obtain ⟨oc, od, dt, sl⟩ := o
    simp only at hc hd
    subst hc hd
    have hT : Shared.TypeIs ⟨hp, g, d, tk, os⟩ (.ref a) "dict" := ⟨_, ho, rfl⟩
    have sb := sub_dd
    wp_walk using wpAny_dictEntries ho rfl, TI.forIn_rng _ (fun rest b s' => rest = [] ∧ b = (none, ()) ∧ s' = ⟨hp, g, d, tk, os⟩) _
    case turn =>
      rintro x rest b s' ⟨hr, _⟩
      cases hr
    case fin =>
      rintro b s' ⟨_, rfl, rfl⟩
      wp_walk
      exact ⟨_, rfl, h⟩
    case h => exact ⟨rfl, rfl, rfl⟩
/-- x != y is False -/
def rNeSelf (K : PySem.W.Frag) : R2 := fun x y H Q => ((∃ (a b : Addr) (xs : List V), x = .ref a ∧ y = .ref b ∧ SqL K H a xs ∧ SqL K H b xs ∧ xs.all selfB = true) ∨ (∃ (a : Addr) (xs : List V), x = .ref a ∧ y = .ref a ∧ SqT K H a xs) ∨ (∃ a : Addr, x = .ref a ∧ y = .ref a ∧ H a = some (.dK [])) ∨
  (y = x ∧ (x = .non ∨ (∃ b, x = .bl b) ∨ (∃ i, x = .int i) ∨ ∃ z, x = .str z))) ∧ Q (.bl false) H
theorem op_neSelf {X : Cx} (hu : X.A.units + 64 < cLine) : OpR X (compareOp .NotEq) (rNeSelf X.K) := by
  intro pins s σ H x y v u Q I rx ry h
  obtain ⟨h, q⟩ := h
  have hu' : X.A.units < cLine := by omega
  have fin : ∀ {b : Bool}, b = false → EP X pins σ Q (.bool b) s := fun e => by subst e; exact ⟨.bl false, H, I, rfl, q⟩
  rcases h with ⟨a, b, xs, rfl, rfl, ha, hb, hs⟩ | ⟨a, xs, rfl, rfl, ha⟩ | ⟨a, rfl, rfl, ha⟩ | ⟨rfl, h⟩
  · cases (show v = Value.ref a from rx)
    cases (show u = Value.ref b from ry)
    obtain ⟨its, rv, pl, _⟩ := I.list ha
    obtain ⟨its2, rv2, pl2, _⟩ := I.list hb
    have l1 := rv.length
    have l2 := rv2.length
    refine SeqAt.RcNeAt.lists (e := fun _ => true) pl.isList pl2.isList (by simp only [List.size_toArray]; omega) hu' (fun j h1 h2 => ?_) X.prog X.w X.xe _ (fin (by simp))
    have hj : j < xs.length := by simp only [List.size_toArray] at h1; omega
    obtain ⟨u1, e1, r1⟩ := rv.get (List.getElem?_eq_getElem hj)
    obtain ⟨u2, e2, r2⟩ := rv2.get (List.getElem?_eq_getElem hj)
    have f1 : its.toArray[j] = u1 := by
      have z : its[j]? = some its.toArray[j] := by simp
      rw [e1] at z; exact (Option.some.inj z).symm
    have f2 : its2.toArray[j] = u2 := by
      have z : its2[j]? = some its2.toArray[j] := by simp
      rw [e2] at z; exact (Option.some.inj z).symm
    rw [f1, f2]
    exact eq_self (List.all_eq_true.mp hs _ (List.getElem_mem hj)) r1 r2
  · cases (show v = Value.ref a from rx)
    cases (show u = Value.ref a from ry)
    obtain ⟨its, rv, pl, _⟩ := I.tuple ha
    exact SeqAt.RcNeAt.tuples (e := fun _ => true) pl pl hu' (fun j h1 h2 => SeqAt.EqAt.same _) X.prog X.w X.xe _ (fin (by simp))
  · cases (show v = Value.ref a from rx)
    cases (show u = Value.ref a from ry)
    obtain ⟨_, hs, vs, kv, o, es, ep, ho, hx, hd, _, pr, _⟩ := (show ObjOk X.prog X.w H s.heap a (.dK []) from I.hok a _ ha)
    cases kv
    have es0 : es = #[] := by
      have z := pr.length
      simp at z
      exact z
    subst es0
    exact richCompare_meets_room (op := .NotEq) ⟨o, ho, hx.1⟩ ⟨o, ho, hx.1⟩ PySem.F.slot_dict_ne PySem.F.entry_dict_ne (PySem.F.args_dict_ne_2 _ _) (dictNe_self (o := o) (ep := ep)) ⟨⟨ho, hx.1, hd, hs⟩, (fun z => nomatch z), fin rfl⟩ hu'
  · rcases h with rfl | ⟨b, rfl⟩ | ⟨i, rfl⟩ | ⟨z, rfl⟩
    · cases rx; cases ry
      exact SeqAt.RcNeAt.none_none X.prog X.w X.xe _ (fin rfl)
    · cases rx; cases ry
      exact SeqAt.RcNeAt.bool_bool b b X.prog X.w X.xe _ (fin (by simp))
    · obtain ⟨t, rfl⟩ := rx
      obtain ⟨t', rfl⟩ := ry
      exact SeqAt.RcNeAt.int_int i t i t' X.prog X.w X.xe _ (fin (by simp))
    · obtain ⟨t, rfl⟩ := rx
      obtain ⟨t', rfl⟩ := ry
      exact SeqAt.RcNeAt.str_str z t z t' X.prog X.w X.xe _ (fin (by simp))
end Pd

set_option maxHeartbeats 4000000
namespace Pd
open PySem PySem.Spec PyProof.Rows L2
/-! ### C(e, ..) where it may raise, in a try -/
def tMakeS (C : Addr) (sp : Sp) (dvs : List V) (E : L2.St → XK) (t : TA) : TE := fun σ H Q => t σ H fun vs H1 => ∀ x dx, H1 x = none → H1 dx = none → dx ≠ x → sp (.ref x :: (vs ++ dvs)) (upd (upd H1 dx (.own x)) x (.ins C dx [])) (fun v H2 => v = .non ∧ Q (.ref x) H2) (E σ)
section
variable {X : Cx} {CX : CXT} {k : Nat} {f C : Addr} {fd : FuncData} {ps : List Str} {sp : Sp} {E : L2.St → XK} {x : Str} {p pos : Pos} {e : Expr} {es : List Expr} {t : TA} {dvs : List V} {ds : List Value}
theorem pe_makeS (M : Mk X.K C f) (F : FnOk X.prog X.w X.K X.mg X.base CX k f fd ps sp) (hr : Room (k + 1) X.A) (hg : Gl X x) (hm : X.mg x = some (.ref C)) (hb : Binds X.K fd ps ds) (hd : Vals dvs ds) (hx : ∀ σ, PassesAt CX X σ (E σ))
    (ha : PA X (e :: es) t) (hdb : (x == ("__debug__" : Str)) = false := by decide) (he : starEach (e :: es) X.env = (false, eval e X.env) :: starEach es X.env := by rfl) (hpl : (backTo pos (starEach es X.env)).any (·.1) = false := by rfl) :
    PE X (.Call (.Name x p) (e :: es) [] pos) (tMakeS C sp dvs E t) := by
  refine ⟨fun pins s σ H Q I h => ?_⟩
  refine wpAny_Call_Name_kw (ld_glob I hg hm ?_ hdb)
  refine PySem.W.callWith_K (h₀ := X.base) I.ok.mod.kin M.kp (thn (ha.run pos pins s σ H _ I h) fun us s1 ⟨vs, H1, I1, r, q⟩ => ⟨I1.kIn, ?_⟩) he hpl
  show wpAny (model X.prog X.w) X.A (call (.ref C) us) (EP X pins σ Q) X.xe s1
  have hq := q (s1.heap.objs.size + 1) s1.heap.objs.size (I1.hok.fresh (Nat.le_succ _)) (I1.hok.fresh (Nat.le_refl _)) (Nat.ne_of_lt (Nat.lt_succ_self _))
  have I2 := Inv.made (C := C) I1
  have r2 : Vals (V.ref (s1.heap.objs.size + 1) :: (vs ++ dvs)) (Value.ref (s1.heap.objs.size + 1) :: (us ++ ds)) := .cons rfl (r.append hd)
  have hl : (Value.ref (s1.heap.objs.size + 1) :: us ++ ds).length = ps.length := by
    have e := r2.length
    rw [F.len _ _ _ _ hq] at e
    exact e.symm
  refine wpAny_call (make_map (f := f) I1.kIn M.makes M.init (beq_iff_eq.mp M.fn) (codeAny_mono (F.run _ X.stack _ _ ⟨Value.ref (s1.heap.objs.size + 1) :: us, []⟩ (Value.ref (s1.heap.objs.size + 1) :: (us ++ ds)) _ _ (E σ) (hr.make C us [])
    (I2.env0.make C us []) (hb _ (Value.ref (s1.heap.objs.size + 1) :: us) I2.kIn hl) r2 hq) fun r s' hq' => ?_))
  cases r with
  | error e => exact hx σ pins _ _ e s' I2 hq'
  | ok fl =>
    cases fl with
    | ret u =>
      obtain ⟨v, H', I3, rv, ev, q3⟩ := I2.after hq'
      subst ev
      exact ⟨rv, ⟨V.ref (s1.heap.objs.size + 1), H', I3, rfl, q3⟩⟩
    | next => exact False.elim hq'
    | brk => exact False.elim hq'
    | cont => exact False.elim hq'
end
end Pd

set_option maxHeartbeats 4000000
namespace Pd
open PySem PySem.Spec PyProof.Rows L2 SX PySem.OEX
/-! ### Folding(..) of what is no row of steps -/
theorem ni_ask {K : PySem.W.Frag} {C : Addr} {H : Hp} {y : V} {Q : XK} (q : ∀ d H', H d = none → Ext H H' → H' d = some (.xd [("index", y)]) → Q (.ref C) (some d) H') :
    [y].length ≤ 1000 ∧ ∀ a, H a = none → spNsInit K C (.ref a :: ([y] ++ [])) (upd H a (exo a C none)) (fun v H2 => v = .non ∧ ∃ (d : Addr) (fs : List (Str × V)), H2 a = some (exo a C (some d)) ∧ H2 d = some (exd d fs) ∧ H d = none ∧ Q (.ref C) (some d) (upd (del H2 a) d (.xd fs))) (fun _ _ _ => False) := by
  refine ⟨by show 1 ≤ 1000; decide, fun a ha => ⟨a, y, rfl, upd_same, fun d hd n => ?_⟩⟩
  have hd' : H d = none := by rw [upd_ne n] at hd; exact hd
  refine ⟨rfl, d, [("index", y)], upd_same, by rw [upd_ne n]; exact upd_same, hd', q d _ hd' (fun b o e => ?_) upd_same⟩
  have nb : b ≠ d := ne_of_none e hd'
  have na : b ≠ a := ne_of_none e ha
  rw [upd_ne nb, del_ne na, upd_ne na, upd_ne nb, upd_ne na]
  exact e
/-- the class NoStep as it is raised -/
structure NsR (P : Program) (w : World) (K : PySem.W.Frag) (mg : Str → Option Value) (base : Heap) (C : Addr) : Prop where
  o : OexC K C
  init : ∃ (g : Addr) (fd : FuncData), PySem.W.findIn K (.ref C) "__init__" = some (some (.ref g)) ∧ PySem.W.typeIn K (.ref g) = some (.type "function") ∧ FnOk P w K mg base CX0 1 g fd ["self", "index"] (spNsInit K C) ∧ Binds K fd ["self", "index"] []
  g : mg "NoStep" = some (.ref C)
/-- no row of steps: the index of the first wrong item -/
inductive BadR (K : PySem.W.Frag) (H : Hp) : V → Nat → Prop where
  | kind {x : V} {t : String} (h : TyX K H x (.type t)) (n : kitB t "tuple" = some false) : BadR K H x 0
  | row {a : Addr} {ps : List Addr} {sts : List Stp} {v : V} {rest : List V} (h : SqT K H a (ps.map V.ref ++ v :: rest)) (al : Al H ps sts) (l : ps.length ≤ 6) (b : ps.length = 6 ∨ ∀ H', Ext H H' → NoStp K H' v) : BadR K H (.ref a) ps.length
def spStepO (K : PySem.W.Frag) : Sp := fun vs H Q E => spIsStep vs H Q E ∨ spStepN K vs H Q E
def spFInitW (K : PySem.W.Frag) (CN : Addr) : Sp := fun vs H _ E => ∃ (o : Addr) (x : V) (i : Nat), vs = [.ref o, x] ∧ BadR K H x i ∧ ∀ d H', H d = none → Ext H H' → H' d = some (.xd [("index", .int (i : Nat))]) → E (.ref CN) (some d) H'
section
variable {P : Program} {w : World} {K : PySem.W.Frag} {mg : Str → Option Value} {base : Heap}
theorem ok_stepO {f : Addr} {fd : FuncData} (F : Fun K "is_step" "is_step" sIsStep f fd) (T : Nms mg) (C : Cst mg) (A1 : Cl P w K mg base 1 "is_character" spIsChar) (A2 : Cl P w K mg base 2 "_is_choice" spIsChoice) (A3 : Cl P w K mg base 1 "is_integer" spIsInt) (G : Cl P w K mg base 1 "is_character" (spCharE K)) (G2 : Cl P w K mg base 2 "_is_choice" (spChoiceE K)) (G3 : Cl P w K mg base 1 "is_integer" (spIntE K)) : FnOk P w K mg base CX0 3 f fd ["value"] (spStepO K) :=
  fnOk_or (ok_isStep F T C A1 A2 A3) (ok_stepN F T C G G2 G3) fun _ _ _ _ h => h
theorem ok_finitW {f CN : Addr} {fd : FuncData} {dvs : List V} (F : FunD K "__init__" "Folding.__init__" (defArgs sFoldingInit) (defBody sFoldingInit) (defScope sFoldingInit) dvs [] f fd) (T : Nms mg) (C : Cst mg) (N : NsR P w K mg base CN) (G : Cl P w K mg base 3 "is_step" (spStepO K)) :
    FnOk P w K mg base (L2.CX P w) 4 f fd ["self", "steps"] (spFInitW K CN) := by
  refine F.ok scFoldingInit (fun vs H Q E h => ?_) (fun cdv A outer s H vs Q E hr h => ?_)
  · obtain ⟨o, x, i, rfl, _⟩ := h
    rfl
  · obtain ⟨o, x, i0, rfl, hx, q⟩ := h
    have nd := scFoldingInit.nd
    obtain ⟨t6, hm⟩ := C.steps
    obtain ⟨gi, fdi, iC, tI, FI, bI⟩ := N.init
    refine ⟨_, pss_cons (ps_if (pt_not (pt_val (pe_callB call_isi (by rfl) T.isi (by decide +kernel) (pa_cons (pv 1) (pa_cons (pe_bltn (v := .ty "tuple") (by rfl) T.tuple (by decide +kernel) rfl) pa_nil))))) (pss_one (ps_raise rfl (takes_of rfl rfl rfl rfl) (pmk_oex N.o iC tI FI (hr.mono (by decide)) bI .nil pass0 rfl N.g (pa_cons pe_int pa_nil)))) pss_nil)
      (pss_cons (ps_for (passes_of rfl) rfl (pi_enumT (by rfl) T.enum (pa_cons (pv 1) pa_nil)) (pg_tup (by rfl) (pgs_cons (pg_name (i := 2) nd rfl (Or.inl rfl)) (pgs_cons (pg_name (i := 3) nd rfl (Or.inl rfl)) pgs_nil)))
        (pss_one (ps_if (PW.pt (pw_or (pt_cmpR op_ge (pv 2) (pe_glob (v := .int 6) rfl hm ⟨_, rfl⟩) (nomark _)) (pw_or1 (pt_not (pt_val (pe_cl G hr (by decide) rfl (pa_cons (pv 3) pa_nil))))))) (pss_one (ps_raise rfl (takes_of rfl rfl rfl rfl) (pmk_oex N.o iC tI FI (hr.mono (by decide)) bI .nil pass0 rfl N.g (pa_cons (pv 2) pa_nil)))) pss_nil)))
      pss_never), ?_⟩
    cases hx with
    | @kind x t ty kb => exact ⟨_, rfl, _, _, _, _, false, rfl, .ty "tuple", ty, kit_ty kb, false, rfl, iteT (ni_ask fun d H' hd k e => q d H' hd k e)⟩
    | @row a ps sts v rest h al l b =>
      refine ⟨_, rfl, _, _, _, _, true, rfl, .ty "tuple", sqT_ty h, kit_ty (by decide +kernel), true, rfl, iteF ?_⟩
      refine ⟨_, rfl, a, _, rfl, h, for_it (walk_enumT (xs := ps.map V.ref ++ v :: rest)) (fun i σ H' => ∃ u w, σ = [some (.ref o), some (.ref a), u, w] ∧ Ext H H' ∧ i ≤ ps.length) ⟨none, none, rfl, .refl, Nat.zero_le _⟩ (fun i σ H' _ p => by
        obtain ⟨u, w, _, k, _⟩ := p
        exact sqT_keep h fun o e => k a o e) ?_ ?_⟩
      · rintro i x σ H2 H3 hi ⟨u, w', rfl, k2, hle⟩ ⟨Ta, x1, y1, rfl, hT, rfl, e1, e2⟩
        obtain rfl := Option.some.inj e1
        replace e2 : (ps.map V.ref ++ v :: rest)[i]? = some y1 := e2
        have k3 : Ext H (L2.upd H2 Ta (.tup [V.int (i : Nat), y1])) := k2.new' hT
        refine ⟨Ta, _, rfl, SqT.of upd_same, rfl, _, _, rfl, _, _, rfl, rfl, ?_⟩
        refine ⟨_, rfl, _, _, rfl, rfl, _, rfl, ?_⟩
        by_cases hlt : i < ps.length
        · rw [List.getElem?_append_left (by rw [List.length_map]; exact hlt), List.getElem?_map] at e2
          obtain ⟨p, hp, rfl⟩ := Option.map_eq_some_iff.mp e2
          obtain ⟨st, es, hst, ok⟩ := al.get hp
          rw [decide_eq_false (show ¬ ((i : Nat) : Int) ≥ 6 by omega)]
          exact iteF ⟨_, rfl, .inl ⟨p, st, rfl, hst.ext k3, ok, fun H4 k4 => ⟨true, rfl, iteF ⟨some (.int (i : Nat)), some (.ref p), rfl, k3.trans k4, hlt⟩⟩⟩⟩
        · obtain rfl : i = ps.length := by omega
          rw [List.getElem?_append_right (by rw [List.length_map]; exact Nat.le_refl _), List.length_map, Nat.sub_self] at e2
          cases e2
          have back : ∀ {H' : Hp} {c : Addr}, Ext H H' → H' c = none → H c = none := fun {H' c} k e => by
            cases z : H c with
            | none => rfl
            | some o => rw [k c o z] at e; cases e
          rcases b with b | b
          · rw [decide_eq_true (show ((ps.length : Nat) : Int) ≥ 6 by omega)]
            exact iteT (iteT ⟨_, rfl, ni_ask fun d H' hd k e => q d H' (back k3 hd) (k3.trans k) e⟩)
          · by_cases h6 : ps.length = 6
            · rw [decide_eq_true (show ((ps.length : Nat) : Int) ≥ 6 by omega)]
              exact iteT (iteT ⟨_, rfl, ni_ask fun d H' hd k e => q d H' (back k3 hd) (k3.trans k) e⟩)
            · rw [decide_eq_false (show ¬ ((ps.length : Nat) : Int) ≥ 6 by omega)]
              exact iteF ⟨_, rfl, .inr ⟨v, rfl, b _ k3, fun H4 k4 => ⟨false, rfl, iteT ⟨_, rfl, ni_ask fun d H' hd k e => q d H' (back (k3.trans k4) hd) ((k3.trans k4).trans k) e⟩⟩⟩⟩
      · rintro σ H2 ⟨u, w', rfl, k2, hle⟩
        rw [List.length_append, List.length_map] at hle
        exact absurd hle (by show ¬ _ + (_ + 1) ≤ _; omega)
end
end Pd

set_option maxHeartbeats 4000000
namespace Pd
open PySem PySem.Spec PyProof.Rows L2 SX
/-! ### what the words of a part write -/
def lowW : List Nat := [108, 111, 119, 101, 114]
def swapW : List Nat := [115, 119, 97, 112]
def dropW : List Nat := [100, 114, 111, 112]
def leadW : List Nat := [108, 101, 97, 100]
def onceW : List Nat := [111, 110, 99, 101]
def cutW : List Nat := [99, 117, 116]
theorem words_S : ("lower" : Str) = S lowW ∧ ("swap" : Str) = S swapW ∧ ("drop" : Str) = S dropW ∧ ("lead" : Str) = S leadW ∧ ("once" : Str) = S onceW ∧ ("cut" : Str) = S cutW := by decide +kernel
def oneC (k : Nat → Stp) : List Nat → Option Stp
  | [c] => if c ∈ CH then some (k c) else none
  | _ => none
def twoC : List (List Nat) → Option Stp
  | [[a], [b]] => if a ∈ CH ∧ b ∈ CH then some (.swap a b) else none
  | _ => none
def cutC : List Nat → Option Stp
  | [d] => if 49 ≤ d ∧ d ≤ 57 then some (.cut (d - 48)) else none
  | _ => none
def dropC (v : List Nat) : Option Stp := if choB v = true then some (.drop v) else none
def rd (w : List Nat) (vs : List (List Nat)) : Option Stp :=
  if w = lowW then (if vs = [] then some .low else none) else
  if w = swapW then twoC vs else
  match vs with
  | [v] => if w = dropW then dropC v else if w = leadW then oneC .lead v else if w = onceW then oneC .once v else if w = cutW then cutC v else none
  | _ => none
/-- the number that one digit writes -/
def numD : List Nat → Ds
  | [d] => if 48 ≤ d ∧ d ≤ 57 then .num ((d : Int) - 48) else .txt [d]
  | v => .txt v
def numV : List Nat → V
  | [d] => if 48 ≤ d ∧ d ≤ 57 then .int ((d : Int) - 48) else .str (S [d])
  | v => .str (S v)
def valD (w v : List Nat) : Ds := if w = cutW then numD v else .txt v
def valV' (w v : List Nat) : V := if w = cutW then numV v else .str (S v)
theorem num_it {K : PySem.W.Frag} {H : Hp} {v : List Nat} (h : v.length ≤ 1000) : It K H (numV v) (numD v) := by
  match v, h with
  | [], h => exact .txt _ h
  | [d], h =>
    by_cases q : 48 ≤ d ∧ d ≤ 57
    · show It K H (if 48 ≤ d ∧ d ≤ 57 then .int ((d : Int) - 48) else .str (S [d])) (if 48 ≤ d ∧ d ≤ 57 then .num ((d : Int) - 48) else .txt [d])
      rw [if_pos q, if_pos q]; exact .num _
    · show It K H (if 48 ≤ d ∧ d ≤ 57 then .int ((d : Int) - 48) else .str (S [d])) (if 48 ≤ d ∧ d ≤ 57 then .num ((d : Int) - 48) else .txt [d])
      rw [if_neg q, if_neg q]; exact .txt _ h
  | _ :: _ :: _, h => exact .txt _ h
theorem val_it {K : PySem.W.Frag} {H : Hp} {w v : List Nat} (h : v.length ≤ 1000) : It K H (valV' w v) (valD w v) := by
  unfold valV' valD
  by_cases e : w = cutW
  · rw [if_pos e, if_pos e]; exact num_it h
  · rw [if_neg e, if_neg e]; exact .txt _ h
theorem vals_its {K : PySem.W.Frag} {H : Hp} {w : List Nat} : ∀ {vs : List (List Nat)}, (∀ v ∈ vs, v.length ≤ 1000) → Its K H (vs.map (valV' w)) (vs.map (valD w))
  | [], _ => .nil
  | v :: vs, h => .cons (val_it (h v List.mem_cons_self)) (vals_its fun u hu => h u (List.mem_cons_of_mem _ hu))
theorem str_ne {a b : List Nat} (h : a ≠ b) : V.str (S a) ≠ V.str (S b) := fun e => h (of_decide_eq_true (by rw [← dec_S]; exact decide_eq_true e))
theorem isChr_of {v : List Nat} : isChr v = true ↔ ∃ c ∈ CH, v = [c] := by
  match v with
  | [] => exact ⟨(fun h => nomatch h), (fun ⟨c, _, e⟩ => nomatch e)⟩
  | [c] => exact ⟨fun h => ⟨c, of_decide_eq_true h, rfl⟩, fun ⟨d, hd, e⟩ => by cases e; exact decide_eq_true hd⟩
  | _ :: _ :: _ => exact ⟨(fun h => nomatch h), (fun ⟨c, _, e⟩ => nomatch e)⟩
theorem oneC_no {k : Nat → Stp} {v : List Nat} (h : oneC k v = none) : isChr v = false := by
  cases q : isChr v with
  | false => rfl
  | true =>
    obtain ⟨c, hc, rfl⟩ := isChr_of.mp q
    replace h : (if c ∈ CH then some (k c) else none) = none := h
    rw [if_pos hc] at h
    cases h
theorem oneC_yes {k : Nat → Stp} {v : List Nat} {st : Stp} (h : oneC k v = some st) : ∃ c ∈ CH, v = [c] ∧ st = k c := by
  match v, h with
  | [c], h =>
    replace h : (if c ∈ CH then some (k c) else none) = some st := h
    by_cases q : c ∈ CH
    · rw [if_pos q] at h; cases h; exact ⟨c, q, rfl, rfl⟩
    · rw [if_neg q] at h; cases h
theorem cutD_no {v : List Nat} (h : cutC v = none) : ((numD v).isI && (numD v).cut) = false := by
  match v, h with
  | [], _ => rfl
  | [d], h =>
    replace h : (if 49 ≤ d ∧ d ≤ 57 then some (Stp.cut (d - 48)) else none) = none := h
    by_cases q : 49 ≤ d ∧ d ≤ 57
    · rw [if_pos q] at h; cases h
    · show (Ds.isI (if 48 ≤ d ∧ d ≤ 57 then .num ((d : Int) - 48) else .txt [d]) && Ds.cut (if 48 ≤ d ∧ d ≤ 57 then .num ((d : Int) - 48) else .txt [d])) = false
      by_cases q2 : 48 ≤ d ∧ d ≤ 57
      · rw [if_pos q2]
        show (true && (decide (1 ≤ ((d : Int) - 48)) && decide (((d : Int) - 48) ≤ 9))) = false
        rw [decide_eq_false (show ¬ (1 : Int) ≤ (d : Int) - 48 by omega)]; rfl
      · rw [if_neg q2]; rfl
  | _ :: _ :: _, _ => rfl
theorem cutC_yes {v : List Nat} {st : Stp} (h : cutC v = some st) : ∃ d, 49 ≤ d ∧ d ≤ 57 ∧ v = [d] ∧ st = .cut (d - 48) := by
  match v, h with
  | [d], h =>
    replace h : (if 49 ≤ d ∧ d ≤ 57 then some (Stp.cut (d - 48)) else none) = some st := h
    by_cases q : 49 ≤ d ∧ d ≤ 57
    · rw [if_pos q] at h; cases h; exact ⟨d, q.1, q.2, rfl, rfl⟩
    · rw [if_neg q] at h; cases h
theorem twoC_yes {vs : List (List Nat)} {st : Stp} (h : twoC vs = some st) : ∃ a ∈ CH, ∃ b ∈ CH, vs = [[a], [b]] ∧ st = .swap a b := by
  unfold twoC at h
  split at h
  · split at h
    · rename_i a b q
      cases h; exact ⟨a, q.1, b, q.2, rfl, rfl⟩
    · cases h
  · cases h
theorem twoC_no {a b : List Nat} (h : twoC [a, b] = none) : (isChr a && isChr b) = false := by
  cases q : isChr a with
  | false => rfl
  | true =>
    cases q2 : isChr b with
    | false => rfl
    | true =>
      obtain ⟨c, hc, rfl⟩ := isChr_of.mp q
      obtain ⟨d, hd, rfl⟩ := isChr_of.mp q2
      unfold twoC at h
      simp [hc, hd] at h
theorem choB_ok {v : List Nat} (h : choB v = true) : Stp.ok (.drop v) := by
  unfold choB at h
  rw [Bool.and_eq_true, Bool.and_eq_true, Bool.and_eq_true] at h
  obtain ⟨h1, h2, h3, h4⟩ := h
  have e1 := of_decide_eq_true h1
  have e2 := of_decide_eq_true h2
  have e3 := of_decide_eq_true h3
  refine ⟨e1, e2, e3, fun c hc => ?_⟩
  rw [List.all_map, List.all_eq_true] at h4
  exact of_decide_eq_true (h4 c hc)
theorem ok_choB {v : List Nat} (h : Stp.ok (.drop v)) : choB v = true := by
  obtain ⟨h1, h2, h3, h4⟩ := h
  unfold choB
  rw [decide_eq_true h1, decide_eq_true h2, decide_eq_true h3, Bool.true_and, Bool.true_and, Bool.true_and, List.all_map, List.all_eq_true]
  exact fun c hc => decide_eq_true (h4 c hc)
theorem rd_no {w : List Nat} {vs : List (List Nat)} (h : rd w vs = none) : stpB (S w) (vs.map (valD w)) = false := by
  obtain ⟨e1, e2, e3, e4, e5, e6⟩ := words_S
  unfold rd at h
  unfold stpB
  rw [e1, e2, e3, e4, e5, e6]
  by_cases h1 : w = lowW
  · rw [if_pos h1] at h
    rw [if_pos (by rw [h1])]
    by_cases q : vs = []
    · rw [if_pos q] at h; cases h
    · exact decide_eq_false fun z => q (by rw [List.length_map] at z; exact List.eq_nil_of_length_eq_zero z)
  rw [if_neg h1] at h
  rw [if_neg (str_ne h1)]
  by_cases h2 : w = swapW
  · rw [if_pos h2] at h
    rw [if_pos (by rw [h2])]
    have hv : valD w = Ds.txt := funext fun v => by unfold valD; rw [if_neg (by rw [h2]; decide)]
    rw [hv]
    match vs, h with
    | [], _ => rfl
    | [_], _ => rfl
    | [a, b], h => exact twoC_no h
    | _ :: _ :: _ :: _, _ => rfl
  rw [if_neg h2] at h
  rw [if_neg (str_ne h2)]
  match vs, h with
  | [], _ => rfl
  | _ :: _ :: _, _ => rfl
  | [v], h =>
    show (if V.str (S w) = V.str (S dropW) then (valD w v).cho else if V.str (S w) = V.str (S leadW) ∨ V.str (S w) = V.str (S onceW) then (valD w v).chr else decide (V.str (S w) = V.str (S cutW)) && ((valD w v).isI && (valD w v).cut)) = false
    replace h : (if w = dropW then dropC v else if w = leadW then oneC .lead v else if w = onceW then oneC .once v else if w = cutW then cutC v else none) = none := h
    have txt : w ≠ cutW → valD w v = .txt v := fun n => by unfold valD; rw [if_neg n]
    by_cases h3 : w = dropW
    · rw [if_pos h3] at h
      rw [if_pos (by rw [h3]), txt (by rw [h3]; decide)]
      unfold dropC at h
      cases q : choB v with
      | false => exact q
      | true => rw [if_pos q] at h; cases h
    rw [if_neg h3] at h
    rw [if_neg (str_ne h3)]
    by_cases h4 : w = leadW
    · rw [if_pos h4] at h
      rw [if_pos (.inl (by rw [h4])), txt (by rw [h4]; decide)]
      exact oneC_no h
    rw [if_neg h4] at h
    by_cases h5 : w = onceW
    · rw [if_pos h5] at h
      rw [if_pos (.inr (by rw [h5])), txt (by rw [h5]; decide)]
      exact oneC_no h
    rw [if_neg h5] at h
    rw [if_neg (fun z => z.elim (str_ne h4) (str_ne h5))]
    by_cases h6 : w = cutW
    · rw [if_pos h6] at h
      unfold valD
      rw [if_pos h6, cutD_no h, Bool.and_false]
    · rw [decide_eq_false (str_ne h6), Bool.false_and]
theorem rd_yes {w : List Nat} {vs : List (List Nat)} {st : Stp} (h : rd w vs = some st) : st.ok ∧ (V.str (S w) :: vs.map (valV' w)) = stpVals st := by
  obtain ⟨e1, e2, e3, e4, e5, e6⟩ := words_S
  unfold rd at h
  have txt : ∀ v, w ≠ cutW → valV' w v = .str (S v) := fun v n => by unfold valV'; rw [if_neg n]
  by_cases h1 : w = lowW
  · rw [if_pos h1] at h
    by_cases q : vs = []
    · rw [if_pos q] at h; cases h
      exact ⟨trivial, by rw [q, h1, ← e1]; rfl⟩
    · rw [if_neg q] at h; cases h
  rw [if_neg h1] at h
  by_cases h2 : w = swapW
  · rw [if_pos h2] at h
    obtain ⟨a, ha, b, hb, rfl, rfl⟩ := twoC_yes h
    refine ⟨⟨ha, hb⟩, ?_⟩
    rw [List.map_cons, List.map_cons, List.map_nil, txt _ (by rw [h2]; decide), txt _ (by rw [h2]; decide), h2, ← e2]; rfl
  rw [if_neg h2] at h
  match vs, h with
  | [v], h =>
    replace h : (if w = dropW then dropC v else if w = leadW then oneC .lead v else if w = onceW then oneC .once v else if w = cutW then cutC v else none) = some st := h
    by_cases h3 : w = dropW
    · rw [if_pos h3] at h
      unfold dropC at h
      by_cases q : choB v = true
      · rw [if_pos q] at h; cases h
        exact ⟨choB_ok q, by rw [List.map_cons, List.map_nil, txt _ (by rw [h3]; decide), h3, ← e3]; rfl⟩
      · rw [if_neg q] at h; cases h
    rw [if_neg h3] at h
    by_cases h4 : w = leadW
    · rw [if_pos h4] at h
      obtain ⟨c, hc, rfl, rfl⟩ := oneC_yes h
      exact ⟨hc, by rw [List.map_cons, List.map_nil, txt _ (by rw [h4]; decide), h4, ← e4]; rfl⟩
    rw [if_neg h4] at h
    by_cases h5 : w = onceW
    · rw [if_pos h5] at h
      obtain ⟨c, hc, rfl, rfl⟩ := oneC_yes h
      exact ⟨hc, by rw [List.map_cons, List.map_nil, txt _ (by rw [h5]; decide), h5, ← e5]; rfl⟩
    rw [if_neg h5] at h
    by_cases h6 : w = cutW
    · rw [if_pos h6] at h
      obtain ⟨d, hd1, hd2, rfl, rfl⟩ := cutC_yes h
      refine ⟨⟨by omega, by omega⟩, ?_⟩
      rw [List.map_cons, List.map_nil]
      have : valV' w [d] = .int ((d - 48 : Nat) : Int) := by
        unfold valV'
        rw [if_pos h6]
        show (if 48 ≤ d ∧ d ≤ 57 then V.int ((d : Int) - 48) else .str (S [d])) = _
        rw [if_pos ⟨by omega, hd2⟩]
        congr 1; omega
      rw [this, h6, ← e6]; rfl
    · rw [if_neg h6] at h; cases h
/-! ### a part and its words -/
def untild (c : Nat) : Nat := if c = 126 then 32 else c
def spl32 (x : List Nat) : List (List Nat) := TL.spl [32] 0 [] x
def spl2 (x : List Nat) : List (List Nat) := TL.spl [59, 32] 0 [] x
theorem spl_acc {S' : List Nat} : ∀ (x acc : List Nat), TL.spl S' 0 acc x ≠ []
  | [], acc => by rw [TL.spl_nil]; exact List.cons_ne_nil _ _
  | c :: r, acc => by
    show (if TL.pre S' (c :: r) = true then acc :: TL.spl S' (S'.length - 1) [] r else TL.spl S' 0 (acc ++ [c]) r) ≠ []
    split
    · exact List.cons_ne_nil _ _
    · exact spl_acc r _
/-- one sign as the separator -/
theorem spl1 {s : Nat} : ∀ (x acc : List Nat), TL.joinL [s] (TL.spl [s] 0 acc x) = acc ++ x ∧ (s ∉ acc → ∀ p ∈ TL.spl [s] 0 acc x, s ∉ p)
  | [], acc => by
    rw [TL.spl_nil]
    exact ⟨by rw [List.append_nil]; rfl, fun h p hp => by rw [List.mem_singleton.mp hp]; exact h⟩
  | c :: r, acc => by
    have e : TL.spl [s] 0 acc (c :: r) = if TL.pre [s] (c :: r) = true then acc :: TL.spl [s] 0 [] r else TL.spl [s] 0 (acc ++ [c]) r := rfl
    have pe : TL.pre [s] (c :: r) = true ↔ c = s := by
      unfold TL.pre
      simp
    rw [e]
    by_cases h : TL.pre [s] (c :: r) = true
    · rw [if_pos h]
      have hc := pe.mp h
      obtain ⟨i1, i2⟩ := spl1 (s := s) r []
      refine ⟨?_, fun ha p hp => ?_⟩
      · cases q : TL.spl [s] 0 [] r with
        | nil => exact absurd q (spl_acc r [])
        | cons y ys =>
          show acc ++ ([s] ++ TL.joinL [s] (y :: ys)) = _
          rw [← q, i1, hc]; rfl
      · rcases List.mem_cons.mp hp with rfl | hp
        · exact ha
        · exact i2 (fun z => nomatch z) p hp
    · rw [if_neg h]
      obtain ⟨i1, i2⟩ := spl1 (s := s) r (acc ++ [c])
      refine ⟨by rw [i1, List.append_assoc]; rfl, fun ha p hp => i2 (fun z => ?_) p hp⟩
      rcases List.mem_append.mp z with z | z
      · exact ha z
      · exact h (pe.mpr (List.mem_singleton.mp z).symm)
theorem tild_un {w : List Nat} (h : 32 ∉ w) : (w.map untild).map tild = w := by
  rw [List.map_map]
  have : ∀ c ∈ w, (tild ∘ untild) c = c := fun c hc => by
    show tild (untild c) = c
    unfold tild untild swapC
    by_cases e : c = 126
    · rw [if_pos e, if_pos rfl, e]
    · rw [if_neg e, if_neg (fun z : c = 32 => h (by rw [← z]; exact hc))]
  rw [List.map_congr_left this, List.map_id']
/-- a part: its first word, the others without tildes -/
def rdP (x : List Nat) : Option Stp := match spl32 x with
  | [] => none
  | w :: ws => rd w (ws.map fun v => v.map untild)
theorem rdP_part {x : List Nat} {st : Stp} (h : rdP x = some st) : partL st = x := by
  unfold rdP at h
  have j : TL.joinL [32] (spl32 x) = x := (spl1 x []).1
  have n32 : ∀ p ∈ spl32 x, 32 ∉ p := (spl1 x []).2 (fun z => nomatch z)
  cases q : spl32 x with
  | nil => rw [q] at h; cases h
  | cons w ws =>
    rw [q] at h j n32
    replace h : rd w (ws.map fun v => v.map untild) = some st := h
    have back : ∀ v ∈ ws, (v.map untild).map tild = v := fun v hv => tild_un (n32 v (List.mem_cons_of_mem _ hv))
    have key : wordL st :: argL st = w :: ws := by
      unfold rd at h
      by_cases h1 : w = lowW
      · rw [if_pos h1] at h
        by_cases q : ws.map (fun v => v.map untild) = []
        · rw [if_pos q] at h; cases h
          rw [List.map_eq_nil_iff.mp q, h1]; rfl
        · rw [if_neg q] at h; cases h
      rw [if_neg h1] at h
      by_cases h2 : w = swapW
      · rw [if_pos h2] at h
        obtain ⟨a, ha, b, hb, e, rfl⟩ := twoC_yes h
        match ws, e, back with
        | [u, v], e, back =>
          have b1 := back u (by simp)
          have b2 := back v (by simp)
          simp only [List.map_cons, List.map_nil, List.cons.injEq, and_true] at e
          rw [e.1] at b1
          rw [e.2] at b2
          rw [h2, ← b1, ← b2]; rfl
        | [], e, _ => cases e
        | [_], e, _ => simp at e
        | _ :: _ :: _ :: _, e, _ => simp at e
      rw [if_neg h2] at h
      match ws, h, back with
      | [], h, _ => cases h
      | _ :: _ :: _, h, _ => cases h
      | [v], h, back =>
        have b := back v (by simp)
        replace h : (if w = dropW then dropC (v.map untild) else if w = leadW then oneC .lead (v.map untild) else if w = onceW then oneC .once (v.map untild) else if w = cutW then cutC (v.map untild) else none) = some st := h
        by_cases h3 : w = dropW
        · rw [if_pos h3] at h
          unfold dropC at h
          by_cases q : choB (v.map untild) = true
          · rw [if_pos q] at h; cases h
            rw [h3]
            show [_, (v.map untild).map tild] = _
            rw [b]; rfl
          · rw [if_neg q] at h; cases h
        rw [if_neg h3] at h
        by_cases h4 : w = leadW
        · rw [if_pos h4] at h
          obtain ⟨c, hc, e, rfl⟩ := oneC_yes h
          rw [e] at b
          rw [h4, ← b]; rfl
        rw [if_neg h4] at h
        by_cases h5 : w = onceW
        · rw [if_pos h5] at h
          obtain ⟨c, hc, e, rfl⟩ := oneC_yes h
          rw [e] at b
          rw [h5, ← b]; rfl
        rw [if_neg h5] at h
        by_cases h6 : w = cutW
        · rw [if_pos h6] at h
          obtain ⟨d, d1, d2, e, rfl⟩ := cutC_yes h
          rw [e] at b
          have : tild d = d := by unfold tild swapC; rw [if_neg (by omega)]
          rw [h6, ← b]
          show [_, [48 + (d - 48)]] = [_, [tild d]]
          rw [this, show 48 + (d - 48) = d by omega]; rfl
        · rw [if_neg h6] at h; cases h
    show TL.joinL [32] (wordL st :: argL st) = x
    rw [key]; exact j
end Pd

set_option maxHeartbeats 4000000
namespace Pd
open PySem PySem.Spec PyProof.Rows L2
/-! ### raw values of local names, through calls -/
theorem Holds.at' {X : Cx} {s s' : Shared} {x : Str} {u : Value} (h : Holds X s x u) (e : ∀ o, s.heap.get? X.env.locals = some o → ∃ sl, s'.heap.get? X.env.locals = some { o with slots := sl }) : Holds X s' x u := by
  obtain ⟨kd, m, ⟨o, es, ep, h1, h2, h3, h4⟩, hm⟩ := h
  obtain ⟨sl, e1⟩ := e o h1
  exact ⟨kd, m, ⟨_, es, ep, e1, h2, h3, h4⟩, hm⟩
theorem Holds.up {X : Cx} {s s' : Shared} {x : Str} {u : Value} (h : Holds X s x u) (k : ∀ b o, s.heap.get? b = some o → s'.heap.get? b = some o) : Holds X s' x u := h.at' fun o e => ⟨o.slots, k _ _ e⟩
/-- an expression that leaves the local names as they are -/
structure PEH (X : Cx) (e : Expr) (t : TE) : Prop where
  run : ∀ (pins : List (Addr × Obj)) (s : Shared) (σ : L2.St) (H : Hp) (Q : VK), Inv X pins σ H s → t σ H Q →
    wpAny (model X.prog X.w) X.A (eval e X.env) (fun u s' => EP X pins σ Q u s' ∧ ∀ x w, Holds X s x w → Holds X s' x w) X.xe s
structure PAH (X : Cx) (es : List Expr) (t : TA) : Prop where
  run : ∀ (pos : Pos) (pins : List (Addr × Obj)) (s : Shared) (σ : L2.St) (H : Hp) (Q : List V → Hp → Prop), Inv X pins σ H s → t σ H Q →
    wpAny (model X.prog X.w) X.A (spliced (backTo pos (starEach es X.env))) (fun us s' => AP X pins σ Q us s' ∧ ∀ x w, Holds X s x w → Holds X s' x w) X.xe s
section
variable {X : Cx} {a b e : Expr} {es : List Expr} {ta tb te : TE} {tl : TA} {pos p : Pos}
theorem peh_int {n : Int} {j : Nat} : PEH X (.Constant (.int n) j pos) (tC (.int n)) :=
  ⟨fun pins s σ H Q I q => wpAny_Constant_int ⟨⟨.int n, H, I.tok _, ⟨_, rfl⟩, q⟩, fun x w h => h.up fun _ _ z => z⟩⟩
theorem peh_local {i : Nat} {x : Str} (hN : X.N[i]? = some x) (hv : X.env.scope.names.lookup x = some .local) (hd : (x == ("__debug__" : Str)) = false := by decide) : PEH X (.Name x pos) (tVar i) := by
  constructor
  intro pins s σ H Q I h
  obtain ⟨v, hσ, q⟩ := h
  obtain ⟨m, hn, hl⟩ := I.loc
  obtain ⟨u, r, l⟩ := hl i x _ hN hσ (.inl hv)
  rcases l with ⟨hk, hm⟩ | ⟨hk, _⟩
  · exact wpAny_Name (wpAny_loadName_local I.ok.kind hk hn hm ⟨⟨v, H, I, r, q⟩, fun _ _ z => z⟩) hd
  · have hv' : X.env.kindOf x = some .local := hv
    rw [hv'] at hk
    rcases hk with hk | hk <;> cases hk
theorem peh_add (ha : PEH X a ta) (hb : PEH X b tb) : PEH X (.BinOp a .Add b pos) (tOp (rI0 fun i j => .int (i + j)) ta tb) := by
  constructor
  intro pins s σ H Q I h
  refine wpAny_BinOp (thn (ha.run pins s σ H _ I h) ?_)
  rintro u s1 ⟨⟨x, H1, I1, r1, q1⟩, k1⟩
  refine thn (hb.run pins s1 σ H1 _ I1 q1) ?_
  rintro w s2 ⟨⟨y, H2, I2, r2, i, j, rfl, rfl, q⟩, k2⟩
  obtain ⟨t, rfl⟩ := r1
  obtain ⟨t', rfl⟩ := r2
  exact PyProof.Rows.add_int ⟨⟨.int (i + j), H2, I2.tok _, ⟨_, rfl⟩, q⟩, fun x w h => (k2 x w (k1 x w h)).up fun _ _ z => z⟩
theorem pah_nil : PAH X [] tNil := ⟨fun _ _ _ _ H Q I h => Calls.spliced_nil ⟨⟨[], H, I, .nil, h⟩, fun _ _ z => z⟩⟩
theorem pah_cons (ha : PEH X e te) (hr : PAH X es tl) (hs : starEach (e :: es) X.env = (false, eval e X.env) :: starEach es X.env := by rfl) : PAH X (e :: es) (tCons te tl) := by
  constructor
  intro pos pins s σ H Q I h
  rw [hs]
  show wpAny _ _ (spliced ((false, eval e X.env) :: backTo pos (starEach es X.env))) _ _ s
  refine Calls.spliced_cons (thn (ha.run pins s σ H _ I h) ?_)
  rintro w s1 ⟨⟨x, H1, I1, r1, q1⟩, k1⟩
  refine thn (hr.run pos pins s1 σ H1 _ I1 q1) ?_
  rintro us s2 ⟨⟨xs, H2, I2, r2, q2⟩, k2⟩
  exact ⟨⟨x :: xs, H2, I2, .cons r1 r2, q2⟩, fun x w h => k2 x w (k1 x w h)⟩
theorem peh_call {k : Nat} {f : Addr} {sp : Sp} {x : Str} {E : XK} (F : FnR X.prog X.w X.K X.mg X.base CX0 k f sp) (hr : Room k X.A) (hg : Gl X x) (hm : X.mg x = some (.ref f)) (hk : PySem.W.keepIn X.K (.ref f) = true)
    (ha : PAH X (e :: es) tl) (hdb : (x == ("__debug__" : Str)) = false := by decide) (he : starEach (e :: es) X.env = (false, eval e X.env) :: starEach es X.env := by rfl) (hpl : (backTo pos (starEach es X.env)).any (·.1) = false := by rfl) :
    PEH X (.Call (.Name x p) (e :: es) [] pos) (tCall sp [] E tl) := by
  constructor
  intro pins s σ H Q I h
  refine wpAny_Call_Name_kw (ld_glob I hg hm ?_ hdb)
  refine PySem.W.callWith_K (h₀ := X.base) I.ok.mod.kin hk (thn (ha.run pos pins s σ H _ I h) ?_) he hpl
  rintro us s1 ⟨⟨vs, H1, I1, r, q⟩, k1⟩
  rw [List.append_nil] at q
  refine ⟨I1.kIn, wpAny_call (codeAny_mono (F X.A X.stack s1 H1 us vs Q E hr I1.env0 r q) fun r s' hq => ?_)⟩
  cases r with
  | error e => exact pass0 pins σ H1 s1 e s' I1 hq
  | ok fl =>
    cases fl with
    | ret w =>
      have hq' : CE X.stack X.prog X.w H1 s1 Q w s' := hq
      obtain ⟨v, H', os, bare, un, hok, rv, q'⟩ := id hq'
      exact ⟨I1.after hq', fun x w h => (k1 x w h).at' fun o e => un.any e I1.free (by simp)⟩
    | next => exact False.elim hq
    | brk => exact False.elim hq
    | cont => exact False.elim hq
end
/-- a local name that holds an int -/
theorem name_int {X : Cx} {pins : List (Addr × Obj)} {σ : L2.St} {H : Hp} {s : Shared} {i : Nat} {x : Str} {n : Int} {pos : Pos} {Q E : Value → Shared → Prop} (hN : X.N[i]? = some x) (hv : X.env.scope.names.lookup x = some .local) (I : Inv X pins σ H s)
    (hσ : σ[i]? = some (some (.int n))) (q : ∀ t, Q (.int n t) s) (hd : (x == ("__debug__" : Str)) = false := by decide) : wpAny (model X.prog X.w) X.A (eval (.Name x pos) X.env) Q E s := by
  obtain ⟨m, hn, hl⟩ := I.loc
  obtain ⟨u, r, l⟩ := hl i x _ hN hσ (.inl hv)
  obtain ⟨t, rfl⟩ := r
  rcases l with ⟨hk, hm⟩ | ⟨hk, _⟩
  · exact wpAny_Name (wpAny_loadName_local I.ok.kind hk hn hm (q t)) hd
  · have hv' : X.env.kindOf x = some .local := hv
    rw [hv'] at hk
    rcases hk with hk | hk <;> cases hk
/-- a list of texts of unlike tokens, all below b -/
def TxtsB (b : Nat) (H : Hp) (a : Addr) (cs : List Str) : Prop :=
  ∃ (its : List Value) (n m k : Nat), H a = some (.frz { cls := .type "list", data := .seq its.toArray n } (.lst (cs.map V.str))) ∧ TkL m k cs its ∧ 1 ≤ m ∧ k ≤ b
theorem TxtsB.txts {b : Nat} {H : Hp} {a : Addr} {cs : List Str} (h : TxtsB b H a cs) : TxtsAt H a cs := by
  obtain ⟨its, n, m, k, e, t, l, _⟩ := h
  exact ⟨its, n, m, k, e, t, l⟩
theorem TxtsB.same {b : Nat} {H H' : Hp} {a : Addr} {cs : List Str} (h : TxtsB b H a cs) (e : H' a = H a) : TxtsB b H' a cs := by
  obtain ⟨its, n, m, k, e1, r⟩ := h
  exact ⟨its, n, m, k, e.trans e1, r⟩
/-- ('once', a), its text's token below b -/
def OnceB (b : Nat) (H : Hp) (p : Addr) (a : Str) : Prop :=
  ∃ (n : Nat) (t0 t : Tok), H p = some (.frz { cls := .type "tuple", data := .seq #[.str "once" t0, .str a t] n } (.tup [.str "once", .str a])) ∧ t ≠ 0 ∧ t < b
/-- way, one, two = ..; if way == 2: ..; cut = ('cut', ..); return [.., .., (), .., .., cut][way] -/
def tSix (iw io it ic ig : Nat) (t1 ti ti2 tc : TE) (t0 : TS) : TS := fun D σ H => t1 σ H fun x H1 => ∃ (n : Int) (a : Addr) (cs : List Str) (b : Nat), x = .int n ∧ 0 ≤ n ∧ n < 6 ∧ σ[ig]? = some (some (.ref a)) ∧ cs.length ≤ 1000 ∧ TxtsB b H1 a cs ∧
  ti σ H1 fun y H2 => ∃ (i : Int) (c : Str), y = .int i ∧ H2 a = H1 a ∧ 0 ≤ i ∧ cs[i.toNat]? = some c ∧
  ti2 σ H2 fun y2 H3 => ∃ (j : Int) (d : Str), y2 = .int j ∧ H3 a = H2 a ∧ 0 ≤ j ∧ cs[j.toNat]? = some d ∧
  (n = 2 → t0 { D with nx := fun _ _ => False } (((σ.set iw (some (.int n))).set io (some (.str c))).set it (some (.str d))) H3) ∧
  (n ≠ 2 → tc (((σ.set iw (some (.int n))).set io (some (.str c))).set it (some (.str d))) H3 fun z H4 => ∃ m : Int, z = .int m ∧ ∀ q, H4 q = none →
    (n = 5 → D.rt (.ref q) (upd H4 q (.tup [.str "cut", .int m]))) ∧ ∀ p, p ≠ q → H4 p = none →
    (n = 0 → D.rt (.ref p) (upd (upd H4 q (.tup [.str "cut", .int m])) p (.tup [.str "lower"]))) ∧
    (n = 1 → ∀ H6, SwapAt H6 p c d → (∀ b', b' ≠ p → H6 b' = (upd H4 q (.tup [.str "cut", .int m])) b') → D.rt (.ref p) H6) ∧
    (n = 3 → D.rt (.ref p) (upd (upd H4 q (.tup [.str "cut", .int m])) p (.tup [.str "lead", .str c]))) ∧
    (n = 4 → ∀ H6, OnceB b H6 p c → (∀ b', b' ≠ p → H6 b' = (upd H4 q (.tup [.str "cut", .int m])) b') → D.rt (.ref p) H6))
theorem TkL.got {n m i : Nat} {c : Str} {t : Nat} {cs : List Str} {us : List Value} (h : TkL n m cs us) (e1 : cs[i]? = some c) (e2 : us[i]? = some (.str c t)) : n ≤ t ∧ t < m := by
  obtain ⟨t', e3, l1, l2⟩ := h.get e1
  rw [e2] at e3
  cases e3
  exact ⟨l1, l2⟩
/-- s' is s with new objects and tokens -/
structure Nw (X : Cx) (s s' : Shared) : Prop where
  k : ∀ b u, s.heap.get? b = some u → s'.heap.get? b = some u
  sz : s.heap.objs.size ≤ s'.heap.objs.size
  eq : s' = { s with heap := s'.heap, toks := s'.toks }
theorem Nw.inv {X : Cx} {s s' : Shared} (n : Nw X s s') {pins : List (Addr × Obj)} {σ : L2.St} {H : Hp} (I : Inv X pins σ H s) : Inv X pins σ H s' := by
  rw [n.eq]
  exact I.kept n.k
theorem Nw.trans {X : Cx} {s s' s'' : Shared} (a : Nw X s s') (b : Nw X s' s'') : Nw X s s'' := ⟨fun c u z => b.k c u (a.k c u z), Nat.le_trans a.sz b.sz, by
  have e := b.eq
  rw [a.eq] at e
  exact e⟩
theorem Nw.push {X : Cx} {s : Shared} {o : Obj} {t : Nat} : Nw X s { s with heap := s.heap.push o, toks := t } := ⟨fun _ _ z => Heap.get?_push_of_some _ z, by show _ ≤ (s.heap.push o).objs.size; rw [Heap.size_push]; exact Nat.le_succ _, rfl⟩
def tupO (us : List Value) : Obj := { cls := .type "tuple", data := .seq us.toArray }
section
variable {X : Cx} {s : Shared} {R E : Value → Shared → Prop} {w : Str} {j k : Nat} {c p a b : Pos} {x y : Str} {u v : Value}
theorem tup_w1 (hst : starEach [.Constant (.str w) j c] X.env = [(false, eval (.Constant (.str w) j c) X.env)]) (fin : ∀ s' t, Nw X s s' → s'.heap.get? s.heap.objs.size = some (tupO [.str w t]) → R (.ref s.heap.objs.size) s') :
    wpAny (model X.prog X.w) X.A (eval (.Tuple [.Constant (.str w) j c] k p) X.env) R E s := by
  refine Tuple_ ?_
  rw [hst]
  show wpAny _ _ (spliced [(false, eval (.Constant (.str w) j c) X.env)]) _ _ _
  exact Calls.spliced_cons (Calls.Constant_str (Calls.spliced_nil (wpAny_newTuple (fin _ _ .push (Heap.get?_push_size _ rfl)) (by show 1 ≤ sizeLine; decide))))
theorem tup_w0 (fin : ∀ s', Nw X s s' → R (.ref s.heap.objs.size) s') : wpAny (model X.prog X.w) X.A (eval (.Tuple [] k p) X.env) R E s :=
  Tuple_ (Calls.spliced_nil (wpAny_newTuple (fin _ .push) (by show 0 ≤ sizeLine; decide)))
theorem tup_w2 {pins : List (Addr × Obj)} {σ : L2.St} {H : Hp} (I : Inv X pins σ H s) (K : Holds X s x u) (hd : (x == ("__debug__" : Str)) = false) (hst : starEach [.Constant (.str w) j c, .Name x a] X.env = [(false, eval (.Constant (.str w) j c) X.env), (false, eval (.Name x a) X.env)])
    (fin : ∀ s' t, Nw X s s' → s'.heap.get? s.heap.objs.size = some (tupO [.str w t, u]) → R (.ref s.heap.objs.size) s') :
    wpAny (model X.prog X.w) X.A (eval (.Tuple [.Constant (.str w) j c, .Name x a] k p) X.env) R E s := by
  refine Tuple_ ?_
  rw [hst]
  show wpAny _ _ (spliced ((false, eval (.Constant (.str w) j c) X.env) :: [(false, eval (.Name x a) X.env)])) _ _ _
  exact Calls.spliced_cons (Calls.Constant_str (Calls.spliced_cons ((K.tok _).load (I.tok _) (Calls.spliced_nil (wpAny_newTuple (fin _ _ .push (Heap.get?_push_size _ rfl)) (by show 2 ≤ sizeLine; decide))) hd)))
theorem tup_w3 {pins : List (Addr × Obj)} {σ : L2.St} {H : Hp} (I : Inv X pins σ H s) (K : Holds X s x u) (K2 : Holds X s y v) (hd : (x == ("__debug__" : Str)) = false) (hd2 : (y == ("__debug__" : Str)) = false)
    (hst : starEach [.Constant (.str w) j c, .Name x a, .Name y b] X.env = [(false, eval (.Constant (.str w) j c) X.env), (false, eval (.Name x a) X.env), (false, eval (.Name y b) X.env)])
    (fin : ∀ s' t, Nw X s s' → s'.heap.get? s.heap.objs.size = some (tupO [.str w t, u, v]) → R (.ref s.heap.objs.size) s') :
    wpAny (model X.prog X.w) X.A (eval (.Tuple [.Constant (.str w) j c, .Name x a, .Name y b] k p) X.env) R E s := by
  refine Tuple_ ?_
  rw [hst]
  show wpAny _ _ (spliced ((false, eval (.Constant (.str w) j c) X.env) :: (false, eval (.Name x a) X.env) :: [(false, eval (.Name y b) X.env)])) _ _ _
  exact Calls.spliced_cons (Calls.Constant_str (Calls.spliced_cons ((K.tok _).load (I.tok _) (Calls.spliced_cons ((K2.tok _).load (I.tok _) (Calls.spliced_nil (wpAny_newTuple (fin _ _ .push (Heap.get?_push_size _ rfl)) (by show 3 ≤ sizeLine; decide))) hd2)) hd)))
end
/-- [('lower',), ('swap', one, two), (), ('lead', one), ('once', one), cut][way] -/
theorem six_ret {X : Cx} {pins : List (Addr × Obj)} {σ : L2.St} {H : Hp} {s : Shared} {R : Value → Shared → Prop} {iw ic : Nat} {wx ox tx cx : Str} {k2 k3 k4 k5 k6 : Nat} {j2 j3 j4 j5 : Nat} {d1 d2 d3 d4 d5 d6 d7 d8 d9 d10 d11 d12 d13 d14 d15 d16 d17 : Pos} {c d : Str} {t t2 : Tok} {n : Int} {q : Addr}
    (hw : X.N[iw]? = some wx) (hcu : X.N[ic]? = some cx) (lw : X.env.scope.names.lookup wx = some .local) (lc : X.env.scope.names.lookup cx = some .local) (I : Inv X pins σ H s) (Ko : Holds X s ox (.str c t)) (Kt : Holds X s tx (.str d t2))
    (sw : σ[iw]? = some (some (.int n))) (sc : σ[ic]? = some (some (.ref q))) (n0 : 0 ≤ n) (n6 : n < 6) (ne2 : n ≠ 2)
    (dw : (wx == ("__debug__" : Str)) = false) (dO : (ox == ("__debug__" : Str)) = false) (dt : (tx == ("__debug__" : Str)) = false) (dc : (cx == ("__debug__" : Str)) = false)
    (hs1 : starEach [.Constant (.str "lower") j2 d1] X.env = [(false, eval (.Constant (.str "lower") j2 d1) X.env)])
    (hs2 : starEach [.Constant (.str "swap") j3 d3, .Name ox d4, .Name tx d5] X.env = [(false, eval (.Constant (.str "swap") j3 d3) X.env), (false, eval (.Name ox d4) X.env), (false, eval (.Name tx d5) X.env)])
    (hs3 : starEach [.Constant (.str "lead") j4 d8, .Name ox d9] X.env = [(false, eval (.Constant (.str "lead") j4 d8) X.env), (false, eval (.Name ox d9) X.env)])
    (hs4 : starEach [.Constant (.str "once") j5 d11, .Name ox d12] X.env = [(false, eval (.Constant (.str "once") j5 d11) X.env), (false, eval (.Name ox d12) X.env)])
    (hs6 : starEach [.Tuple [.Constant (.str "lower") j2 d1] k2 d2, .Tuple [.Constant (.str "swap") j3 d3, .Name ox d4, .Name tx d5] k3 d6, .Tuple [] k4 d7, .Tuple [.Constant (.str "lead") j4 d8, .Name ox d9] k5 d10, .Tuple [.Constant (.str "once") j5 d11, .Name ox d12] k6 d13, .Name cx d14] X.env =
      [(false, eval (.Tuple [.Constant (.str "lower") j2 d1] k2 d2) X.env), (false, eval (.Tuple [.Constant (.str "swap") j3 d3, .Name ox d4, .Name tx d5] k3 d6) X.env), (false, eval (.Tuple [] k4 d7) X.env), (false, eval (.Tuple [.Constant (.str "lead") j4 d8, .Name ox d9] k5 d10) X.env), (false, eval (.Tuple [.Constant (.str "once") j5 d11, .Name ox d12] k6 d13) X.env), (false, eval (.Name cx d14) X.env)])
    (pix : PlainIx (.Name wx d16))
    (f5 : n = 5 → ∀ s', Inv X pins σ H s' → R (.ref q) s')
    (f0 : n = 0 → ∀ p s', H p = none → Inv X pins σ (upd H p (.tup [.str "lower"])) s' → R (.ref p) s')
    (f1 : n = 1 → ∀ p t0 s', H p = none → Inv X pins σ (upd H p (.frz (tupO [.str "swap" t0, .str c t, .str d t2]) (.tup [.str "swap", .str c, .str d]))) s' → R (.ref p) s')
    (f3 : n = 3 → ∀ p s', H p = none → Inv X pins σ (upd H p (.tup [.str "lead", .str c])) s' → R (.ref p) s')
    (f4 : n = 4 → ∀ p t0 s', H p = none → Inv X pins σ (upd H p (.frz (tupO [.str "once" t0, .str c t]) (.tup [.str "once", .str c]))) s' → R (.ref p) s') :
    wpAny (model X.prog X.w) X.A (eval (.Subscript (.List [.Tuple [.Constant (.str "lower") j2 d1] k2 d2, .Tuple [.Constant (.str "swap") j3 d3, .Name ox d4, .Name tx d5] k3 d6, .Tuple [] k4 d7, .Tuple [.Constant (.str "lead") j4 d8, .Name ox d9] k5 d10, .Tuple [.Constant (.str "once") j5 d11, .Name ox d12] k6 d13, .Name cx d14] d15) (.Name wx d16) d17) X.env) R X.xe s := by
  refine Subscript_ (wpAny_List_spliced ?_)
  rw [hs6]
  show wpAny _ _ (spliced ((false, eval (.Tuple [.Constant (.str "lower") j2 d1] k2 d2) X.env) :: (false, eval (.Tuple [.Constant (.str "swap") j3 d3, .Name ox d4, .Name tx d5] k3 d6) X.env) :: (false, eval (.Tuple [] k4 d7) X.env) :: (false, eval (.Tuple [.Constant (.str "lead") j4 d8, .Name ox d9] k5 d10) X.env) :: (false, eval (.Tuple [.Constant (.str "once") j5 d11, .Name ox d12] k6 d13) X.env) :: [(false, eval (.Name cx d14) X.env)])) _ _ _
  refine Calls.spliced_cons (tup_w1 hs1 fun s1 tk1 N1 g1 => ?_)
  refine Calls.spliced_cons (tup_w3 (N1.inv I) (Ko.up N1.k) (Kt.up N1.k) dO dt hs2 fun s2 tk2 N2 g2 => ?_)
  have M2 := N1.trans N2
  refine Calls.spliced_cons (tup_w0 fun s3 N3 => ?_)
  have M3 := M2.trans N3
  refine Calls.spliced_cons (tup_w2 (M3.inv I) (Ko.up M3.k) dO hs3 fun s4 tk4 N4 g4 => ?_)
  have M4 := M3.trans N4
  refine Calls.spliced_cons (tup_w2 (M4.inv I) (Ko.up M4.k) dO hs4 fun s5 tk5 N5 g5 => ?_)
  have M5 := M4.trans N5
  refine Calls.spliced_cons (name_ref hcu lc (M5.inv I) sc (Calls.spliced_nil ⟨by show 6 ≤ sizeLine; decide, ?_⟩) dc)
  have gl : (s5.heap.push { cls := .type "list", data := .seq [Value.ref s.heap.objs.size, .ref s1.heap.objs.size, .ref s2.heap.objs.size, .ref s3.heap.objs.size, .ref s4.heap.objs.size, .ref q].toArray }).get? s5.heap.objs.size = some { cls := .type "list", data := .seq [Value.ref s.heap.objs.size, .ref s1.heap.objs.size, .ref s2.heap.objs.size, .ref s3.heap.objs.size, .ref s4.heap.objs.size, .ref q].toArray } := Heap.get?_push_size _ rfl
  have N6 : Nw X s5 { s5 with heap := s5.heap.push { cls := .type "list", data := .seq [Value.ref s.heap.objs.size, .ref s1.heap.objs.size, .ref s2.heap.objs.size, .ref s3.heap.objs.size, .ref s4.heap.objs.size, .ref q].toArray } } := .push
  generalize hs6' : ({ s5 with heap := s5.heap.push { cls := .type "list", data := .seq [Value.ref s.heap.objs.size, .ref s1.heap.objs.size, .ref s2.heap.objs.size, .ref s3.heap.objs.size, .ref s4.heap.objs.size, .ref q].toArray } } : Shared) = s6 at N6 ⊢
  replace gl : s6.heap.get? s5.heap.objs.size = some { cls := .type "list", data := .seq [Value.ref s.heap.objs.size, .ref s1.heap.objs.size, .ref s2.heap.objs.size, .ref s3.heap.objs.size, .ref s4.heap.objs.size, .ref q].toArray } := by rw [← hs6']; exact gl
  clear hs6'
  have M6 := M5.trans N6
  have lst : s6.heap.IsList s5.heap.objs.size #[Value.ref s.heap.objs.size, .ref s1.heap.objs.size, .ref s2.heap.objs.size, .ref s3.heap.objs.size, .ref s4.heap.objs.size, .ref q] := ⟨_, gl, rfl, _, rfl⟩
  refine name_int hw lw (M6.inv I) sw (fun tw => ?_) dw
  have key : ∀ {p : Addr}, s.heap.objs.size ≤ p → H p = none := fun l => I.hok.fresh l
  have lay : ∀ {p : Addr} {o : HO}, s.heap.objs.size ≤ p → ObjOk X.prog X.w (upd H p o) s6.heap p o → Inv X pins σ (upd H p o) s6 := fun {p o} l w => by
    have z := I.laid (t' := s6.toks) (h' := s6.heap) M6.k l w
    rw [M6.eq]
    exact z
  have nn5 : n = 0 ∨ n = 1 ∨ n = 3 ∨ n = 4 ∨ n = 5 := by omega
  have l2 : 1 ≤ sizeLine ∧ 2 ≤ sizeLine ∧ 3 ≤ sizeLine := by decide
  rcases nn5 with rfl | rfl | rfl | rfl | rfl
  · refine item_listR lst (by decide) (by decide) (x := .ref s.heap.objs.size) rfl (f0 rfl _ _ (key (Nat.le_refl _)) (lay (Nat.le_refl _) ⟨l2.1, [.str "lower" tk1], .cons ⟨_, rfl⟩ .nil, ⟨_, ((((N2.trans N3).trans N4).trans N5).trans N6).k _ _ g1, rfl, _, rfl⟩⟩)) (pix _ _)
  · refine item_listR lst (by decide) (by decide) (x := .ref s1.heap.objs.size) rfl (f1 rfl _ tk2 _ (key N1.sz) (lay N1.sz ?_)) (pix _ _)
    have g := (((N3.trans N4).trans N5).trans N6).k _ _ g2
    exact ⟨g, l2.2.2, [.str "swap" tk2, .str c t, .str d t2], .cons ⟨_, rfl⟩ (.cons ⟨_, rfl⟩ (.cons ⟨_, rfl⟩ .nil)), ⟨_, g, rfl, _, rfl⟩⟩
  · exact item_listR lst (by decide) (by decide) (x := .ref s3.heap.objs.size) rfl (f3 rfl _ _ (key M3.sz) (lay M3.sz ⟨l2.2.1, [.str "lead" tk4, .str c t], .cons ⟨_, rfl⟩ (.cons ⟨_, rfl⟩ .nil), ⟨_, (N5.trans N6).k _ _ g4, rfl, _, rfl⟩⟩)) (pix _ _)
  · refine item_listR lst (by decide) (by decide) (x := .ref s4.heap.objs.size) rfl (f4 rfl _ tk5 _ (key M4.sz) (lay M4.sz ?_)) (pix _ _)
    have g := N6.k _ _ g5
    exact ⟨g, l2.2.1, [.str "once" tk5, .str c t], .cons ⟨_, rfl⟩ (.cons ⟨_, rfl⟩ .nil), ⟨_, g, rfl, _, rfl⟩⟩
  · exact item_listR lst (by decide) (by decide) (x := .ref q) rfl (f5 rfl _ (M6.inv I)) (pix _ _)
set_option maxHeartbeats 8000000 in
theorem pss_six {X : Cx} {iw io it ic ig : Nat} {wx ox tx cx gx : Str} {e1 idx idx2 ec : Expr} {t1 ti ti2 tc : TE} {t0 : TS} {r0 : List Stmt} {k0 k1 k2 k3 k4 k5 k6 k7 : Nat} {j0 j1 j2 j3 j4 j5 : Nat}
    {a1 a2 a3 a4 a5 a6 a7 a8 a9 a10 b1 b2 b3 b4 c1 c2 c3 c4 d1 d2 d3 d4 d5 d6 d7 d8 d9 d10 d11 d12 d13 d14 d15 d16 d17 d18 : Pos} (hc : X.calm = true) (hN : X.N.Nodup)
    (hw : X.N[iw]? = some wx) (ho : X.N[io]? = some ox) (ht : X.N[it]? = some tx) (hcu : X.N[ic]? = some cx) (hg : X.N[ig]? = some gx) (n1 : iw ≠ io) (n2 : iw ≠ it) (n3 : io ≠ it) (n4 : ic ≠ iw) (n5 : ic ≠ io) (n6 : ic ≠ it)
    (lw : X.env.scope.names.lookup wx = some .local) (lo : X.env.scope.names.lookup ox = some .local) (lt : X.env.scope.names.lookup tx = some .local) (lc : X.env.scope.names.lookup cx = some .local) (lg : X.env.scope.names.lookup gx = some .local)
    (h1 : PE X e1 t1) (hi : PE X idx ti) (hi2 : PE X idx2 ti2) (p1 : PlainIx idx) (p2 : PlainIx idx2) (h0 : PSs X r0 t0) (hec : PEH X ec tc)
    (dw : (wx == ("__debug__" : Str)) = false) (dO : (ox == ("__debug__" : Str)) = false) (dt : (tx == ("__debug__" : Str)) = false) (dc : (cx == ("__debug__" : Str)) = false) (dg : (gx == ("__debug__" : Str)) = false)
    (hst : starEach [e1, .Subscript (.Name gx a1) idx a2, .Subscript (.Name gx a3) idx2 a4] X.env = [(false, eval e1 X.env), (false, eval (.Subscript (.Name gx a1) idx a2) X.env), (false, eval (.Subscript (.Name gx a3) idx2 a4) X.env)])
    (hsc : starEach [.Constant (.str "cut") j1 c1, ec] X.env = [(false, eval (.Constant (.str "cut") j1 c1) X.env), (false, eval ec X.env)])
    (hs1 : starEach [.Constant (.str "lower") j2 d1] X.env = [(false, eval (.Constant (.str "lower") j2 d1) X.env)])
    (hs2 : starEach [.Constant (.str "swap") j3 d3, .Name ox d4, .Name tx d5] X.env = [(false, eval (.Constant (.str "swap") j3 d3) X.env), (false, eval (.Name ox d4) X.env), (false, eval (.Name tx d5) X.env)])
    (hs3 : starEach [.Constant (.str "lead") j4 d8, .Name ox d9] X.env = [(false, eval (.Constant (.str "lead") j4 d8) X.env), (false, eval (.Name ox d9) X.env)])
    (hs4 : starEach [.Constant (.str "once") j5 d11, .Name ox d12] X.env = [(false, eval (.Constant (.str "once") j5 d11) X.env), (false, eval (.Name ox d12) X.env)])
    (hs6 : starEach [.Tuple [.Constant (.str "lower") j2 d1] k2 d2, .Tuple [.Constant (.str "swap") j3 d3, .Name ox d4, .Name tx d5] k3 d6, .Tuple [] k4 d7, .Tuple [.Constant (.str "lead") j4 d8, .Name ox d9] k5 d10, .Tuple [.Constant (.str "once") j5 d11, .Name ox d12] k6 d13, .Name cx d14] X.env =
      [(false, eval (.Tuple [.Constant (.str "lower") j2 d1] k2 d2) X.env), (false, eval (.Tuple [.Constant (.str "swap") j3 d3, .Name ox d4, .Name tx d5] k3 d6) X.env), (false, eval (.Tuple [] k4 d7) X.env), (false, eval (.Tuple [.Constant (.str "lead") j4 d8, .Name ox d9] k5 d10) X.env), (false, eval (.Tuple [.Constant (.str "once") j5 d11, .Name ox d12] k6 d13) X.env), (false, eval (.Name cx d14) X.env)])
    (hsw : swappedStores [.Tuple [.Name wx a5, .Name ox a6, .Name tx a7] k0 a8] (.Tuple [e1, .Subscript (.Name gx a1) idx a2, .Subscript (.Name gx a3) idx2 a4] k1 a9) X.env = pure (some [wx, ox, tx]))
    (hss : swapsWithSole [.Tuple [.Name wx a5, .Name ox a6, .Name tx a7] k0 a8] (.Tuple [e1, .Subscript (.Name gx a1) idx a2, .Subscript (.Name gx a3) idx2 a4] k1 a9) a10.line X.env = pure false)
    (hcs : swapsWith (.Tuple [.Constant (.str "cut") j1 c1, ec] k7 c2) (some (.Name cx c3)) c4.line X.env = pure false) (pix : PlainIx (.Name wx d16)) :
    PSs X [.Assign [.Tuple [.Name wx a5, .Name ox a6, .Name tx a7] k0 a8] (.Tuple [e1, .Subscript (.Name gx a1) idx a2, .Subscript (.Name gx a3) idx2 a4] k1 a9) a10,
      .If (.Compare (.Name wx b1) [.Eq] [.Constant (.int 2) j0 b2] b3) r0 [] b4,
      .Assign [.Name cx c3] (.Tuple [.Constant (.str "cut") j1 c1, ec] k7 c2) c4,
      .Return (some (.Subscript (.List [.Tuple [.Constant (.str "lower") j2 d1] k2 d2, .Tuple [.Constant (.str "swap") j3 d3, .Name ox d4, .Name tx d5] k3 d6, .Tuple [] k4 d7, .Tuple [.Constant (.str "lead") j4 d8, .Name ox d9] k5 d10, .Tuple [.Constant (.str "once") j5 d11, .Name ox d12] k6 d13, .Name cx d14] d15) (.Name wx d16) d17)) d18]
      (tSix iw io it ic ig t1 ti ti2 tc t0) := by
  constructor
  intro pins s σ H D I h
  refine wpAny_execs_cons ?_
  rw [exec_Assign_arm]
  refine wpAny_bind (wpAny_standAt ?_)
  rw [hss]
  refine wpAny_bind (wpAny_pure ?_)
  rw [if_neg (by decide)]
  refine wpAny_bind (Tuple_ ?_)
  rw [hst]
  show wpAny _ _ (spliced ((false, eval e1 X.env) :: (false, eval (.Subscript (.Name gx a1) idx a2) X.env) :: [(false, eval (.Subscript (.Name gx a3) idx2 a4) X.env)])) _ _ s
  refine Calls.spliced_cons (thn (h1.run pins s σ H _ I h) ?_)
  rintro u1 s1 ⟨x, H1, I1, r1, n, a, cs, b, rfl, hn0, hn6, hσ, hz, ⟨its, nn, m, k, hf, tk, hm, hkb⟩, h2⟩
  refine Calls.spliced_cons (pick_raw (n := nn) hg lg I1 hσ hi p1 tk hz h2 ?_ dg)
  rintro y H2 ⟨i, c, rfl, ha, h0', hcs', h3⟩
  refine ⟨i, c, rfl, ha.trans hf, h0', hcs', fun s2 t I2 e2 hmt _ => ?_⟩
  refine Calls.spliced_cons (pick_raw (n := nn) hg lg I2 hσ hi2 p2 tk hz h3 ?_ dg)
  rintro y2 H3 ⟨j, d, rfl, ha3, hj, hd, w2, wn⟩
  refine ⟨j, d, rfl, ha3.trans (ha.trans hf), hj, hd, fun s3 t2 I3 e3 hmt2 _ => Calls.spliced_nil ?_⟩
  obtain ⟨tn, rfl⟩ := r1
  refine wpAny_newObj_type ?_ (by show 3 ≤ sizeLine; decide)
  have I4 : Inv X pins σ H3 { s3 with heap := s3.heap.push { cls := .type "tuple", data := .seq [Value.int n tn, .str c t, .str d t2].toArray } } := I3.kept (t' := s3.toks) fun b o e => Heap.get?_push_of_some _ e
  rw [hsw]
  refine wpAny_bind (wpAny_pure ?_)
  show wpAny (model X.prog X.w) X.A (do rule "assign.swapped-stores"; let items ← unpackItems (.ref s3.heap.objs.size) 3 none; assignInOrder [fun v => bindName X.env tx v, fun v => bindName X.env ox v, fun v => bindName X.env wx v] items.reverse; pure Flow.next) _ _ _
  refine wpAny_bind (wpAny_rule (wpAny_bind (unpackItems_tuple (items := #[Value.int n tn, .str c t, .str d t2]) (I.ok.hd hc) (IsTup.new s3.heap _) fun g hx' => ?_)))
  have I5 := I4.kept (h' := g) (t' := s3.toks) fun b o e => hx' b o (Nat.ne_of_lt (Heap.lt_size e)) e
  show wpAny _ _ (assignInOrder [fun v => bindName X.env tx v, fun v => bindName X.env ox v, fun v => bindName X.env wx v] [Value.str d t2, .str c t, .int n tn] >>= fun _ => pure Flow.next) _ _ _
  refine wpAny_bind (assignInOrder_cons (wpAny_bindName (store_raw (v := V.str d) I5 hN ht lt ⟨t2, rfl⟩ fun s5 I6 K6 _ _ => ?_)))
  refine assignInOrder_cons (wpAny_bindName (store_raw (v := V.str c) I6 hN ho lo ⟨t, rfl⟩ fun s6 I7 K7 keep7 _ => ?_))
  refine assignInOrder_cons (wpAny_bindName (store_raw (v := V.int n) I7 hN hw lw ⟨tn, rfl⟩ fun s7 I8 _ keep8 _ => assignInOrder_nil (wpAny_pure ?_)))
  have neq : ∀ {p q : Nat} {z z' : Str}, X.N[p]? = some z → X.N[q]? = some z' → p ≠ q → z ≠ z' := fun e1 e2 ne e => ne (nodup_ix hN e1 (e ▸ e2))
  have Kt : Holds X s7 tx (.str d t2) := keep8 tx _ (neq ht hw (Ne.symm n2)) (keep7 tx _ (neq ht ho (Ne.symm n3)) K6)
  have Ko : Holds X s7 ox (.str c t) := keep8 ox _ (neq ho hw (Ne.symm n1)) K7
  rw [List.set_comm _ _ (Ne.symm n3), List.set_comm _ _ (Ne.symm n2), List.set_comm _ _ (Ne.symm n1)] at I8
  have hl : σ.length = X.N.length := I.len
  have bd : ∀ {p : Nat} {z : Str}, X.N[p]? = some z → p < σ.length := fun e => by rw [hl]; exact (List.getElem?_eq_some_iff.mp e).1
  have sw : (((σ.set iw (some (V.int n))).set io (some (.str c))).set it (some (.str d)))[iw]? = some (some (.int n)) := by
    rw [List.getElem?_set_ne (Ne.symm n2), List.getElem?_set_ne (Ne.symm n1), List.getElem?_set_self (bd hw)]
  have lσ : (((σ.set iw (some (V.int n))).set io (some (.str c))).set it (some (.str d))).length = σ.length := by simp
  generalize hS : ((σ.set iw (some (V.int n))).set io (some (V.str c))).set it (some (V.str d)) = σ' at *
  -- if way == 2
  refine wpAny_execs_cons (wpAny_If (test_int hw lw I8 sw ?_ dw))
  by_cases e0 : n = 2
  · have e : (n == 2) = true := by simp [e0]
    rw [e]
    refine thn (h0.run pins _ σ' H3 _ (I8.tok _) (w2 e0)) fun f s9 q => ?_
    cases f with
    | next => obtain ⟨_, _, _, z⟩ := q; exact z.elim
    | ret v => exact q
    | brk => exact q
    | cont => exact q
  have e : (n == 2) = false := by simp [e0]
  rw [e]
  refine wpAny_execs_nil ?_
  -- cut = ..
  refine wpAny_execs_cons (wpAny_Assign_Name (Tuple_ ?_) hcs)
  rw [hsc]
  show wpAny _ _ (spliced ((false, eval (.Constant (.str "cut") j1 c1) X.env) :: [(false, eval ec X.env)])) _ _ _
  refine Calls.spliced_cons (Calls.Constant_str (Calls.spliced_cons ?_))
  refine thn (hec.run pins _ σ' H3 _ ((I8.tok _).tok _) (wn e0)) ?_
  rintro uc s10 ⟨⟨z, H4, I10, rz, mm, rfl, fin⟩, kh⟩
  obtain ⟨tm, rfl⟩ := rz
  have Kt10 : Holds X s10 tx (.str d t2) := kh tx _ ((Kt.tok _).tok _)
  have Ko10 : Holds X s10 ox (.str c t) := kh ox _ ((Ko.tok _).tok _)
  refine Calls.spliced_nil (wpAny_newTuple ?_ (by show 2 ≤ sizeLine; decide))
  have nq : H4 s10.heap.objs.size = none := I10.hok.fresh (Nat.le_refl _)
  obtain ⟨f5, fp⟩ := fin _ nq
  have I11 : Inv X pins σ' (upd H4 s10.heap.objs.size (.tup [.str "cut", .int mm])) { s10 with heap := s10.heap.push { cls := .type "tuple", data := .seq [Value.str "cut" (s7.toks + 1), .int mm tm].toArray } } :=
    I10.laid (t' := s10.toks) (fun b o q => Heap.get?_push_of_some _ q) (Nat.le_refl _) ⟨by show 2 ≤ sizeLine; decide, [.str "cut" _, .int mm tm], .cons ⟨_, rfl⟩ (.cons ⟨_, rfl⟩ .nil), ⟨_, Heap.get?_push_size _ rfl, rfl, _, rfl⟩⟩
  generalize hq : s10.heap.objs.size = q at *
  have Kt11 := Kt10.up (s' := { s10 with heap := s10.heap.push { cls := .type "tuple", data := .seq [Value.str "cut" (s7.toks + 1), .int mm tm].toArray } }) fun b o z => Heap.get?_push_of_some _ z
  have Ko11 := Ko10.up (s' := { s10 with heap := s10.heap.push { cls := .type "tuple", data := .seq [Value.str "cut" (s7.toks + 1), .int mm tm].toArray } }) fun b o z => Heap.get?_push_of_some _ z
  refine store_raw (v := V.ref q) I11 hN hcu lc rfl fun s12 I12 _ keep12 _ => ?_
  have Kt12 : Holds X s12 tx (.str d t2) := keep12 tx _ (neq ht hcu (Ne.symm n6)) Kt11
  have Ko12 : Holds X s12 ox (.str c t) := keep12 ox _ (neq ho hcu (Ne.symm n5)) Ko11
  have scu : (σ'.set ic (some (V.ref q)))[ic]? = some (some (.ref q)) := List.getElem?_set_self (by rw [lσ]; exact bd hcu)
  have sw12 : (σ'.set ic (some (V.ref q)))[iw]? = some (some (.int n)) := by rw [List.getElem?_set_ne n4]; exact sw
  -- return [..][way]
  obtain ⟨mt1, mt2⟩ := tk.got hcs' e2
  obtain ⟨mu1, mu2⟩ := tk.got hd e3
  have t0 : t ≠ 0 := Nat.ne_of_gt (Nat.lt_of_lt_of_le hm mt1)
  have u0 : t2 ≠ 0 := Nat.ne_of_gt (Nat.lt_of_lt_of_le hm mu1)
  have tu : t = t2 → c = d := fun z => by subst z; exact tk.inj e2 e3
  have spl : ∀ {p : Addr}, (upd H4 q (.tup [V.str "cut", .int mm])) p = none → p ≠ q ∧ H4 p = none := fun {p} z => by
    have ne : p ≠ q := by rintro rfl; rw [upd_same] at z; cases z
    exact ⟨ne, by rw [upd_ne ne] at z; exact z⟩
  refine wpAny_execs_cons (wpAny_Return_some (six_ret hw hcu lw lc I12 Ko12 Kt12 sw12 scu hn0 hn6 e0 dw dO dt dc hs1 hs2 hs3 hs4 hs6 pix ?_ ?_ ?_ ?_ ?_))
  · exact fun e s' J => ⟨.ref q, _, _, J, rfl, f5 e⟩
  · intro e p s' hp J
    obtain ⟨ne, hp'⟩ := spl hp
    exact ⟨.ref p, _, _, J, rfl, (fp p ne hp').1 e⟩
  · intro e p tk0 s' hp J
    obtain ⟨ne, hp'⟩ := spl hp
    exact ⟨.ref p, _, _, J, rfl, (fp p ne hp').2.1 e _ ⟨0, tk0, t, t2, upd_same, t0, u0, tu⟩ fun b' hb' => upd_ne hb'⟩
  · intro e p s' hp J
    obtain ⟨ne, hp'⟩ := spl hp
    exact ⟨.ref p, _, _, J, rfl, (fp p ne hp').2.2.1 e⟩
  · intro e p tk0 s' hp J
    obtain ⟨ne, hp'⟩ := spl hp
    exact ⟨.ref p, _, _, J, rfl, (fp p ne hp').2.2.2 e _ ⟨0, tk0, t, upd_same, t0, Nat.lt_of_lt_of_le mt2 hkb⟩ fun b' hb' => upd_ne hb'⟩
end Pd

set_option maxHeartbeats 4000000
namespace Pd
open PySem PySem.Spec PyProof.Rows L2
/-! ### defs that tell a number below which no token is to come -/
abbrev SpU := List V → Hp → (Nat → VK) → Prop
def FnU (P : Program) (w : World) (K : PySem.W.Frag) (mg : Str → Option Value) (base : Heap) (k : Nat) (f : Addr) (sp : SpU) : Prop :=
  ∀ (A : Around) (outer : List Env) (s : Shared) (H : Hp) (us : List Value) (vs : List V) (Q : Nat → VK) (E : XK), Room k A → Env0 P w K mg base A outer s H → Vals vs us → sp vs H Q →
    codeAny (model P w) A (.call (.ref f) ⟨us, []⟩) (fun r s' => ∃ b, b ≤ s'.toks ∧ CR CX0 outer P w H s (Q b) E r s') s
theorem CR.mono {outer : List Env} {P : Program} {w : World} {H : Hp} {s s' : Shared} {Q Q' : VK} {E : XK} {r : Result} (h : CR CX0 outer P w H s Q E r s') (k : ∀ v H', Q v H' → Q' v H') : CR CX0 outer P w H s Q' E r s' := by
  cases r with
  | error e => exact h
  | ok fl =>
    cases fl with
    | ret u =>
      obtain ⟨v, H', a, b, c, d, e, q⟩ := (show CE outer P w H s Q u s' from h)
      exact (show CE outer P w H s Q' u s' from ⟨v, H', a, b, c, d, e, k v H' q⟩)
    | next => exact h
    | brk => exact h
    | cont => exact h
theorem FnU.fnR {P : Program} {w : World} {K : PySem.W.Frag} {mg : Str → Option Value} {base : Heap} {k : Nat} {f : Addr} {sp : SpU} (F : FnU P w K mg base k f sp) : FnR P w K mg base CX0 k f (fun vs H Q _ => sp vs H fun _ => Q) :=
  fun A outer s H us vs Q E hr e0 r h => codeAny_mono (F A outer s H us vs (fun _ => Q) E hr e0 r h) fun _ _ ⟨_, _, z⟩ => z
/-- a body that returns -/
structure PSsU (X : Cx) (sts : List Stmt) (t : L2.St → Hp → (Nat → VK) → Prop) : Prop where
  run : ∀ (pins : List (Addr × Obj)) (s : Shared) (σ : L2.St) (H : Hp) (Q : Nat → VK), Inv X pins σ H s → t σ H Q →
    wpAny (model X.prog X.w) X.A (execs sts X.env) (fun f s' => ∃ u, f = .ret u ∧ ∃ v σ' H' b, Inv X pins σ' H' s' ∧ RelV v u ∧ b ≤ s'.toks ∧ Q b v H') X.xe s
theorem fnU_of {P : Program} {w : World} {K : PySem.W.Frag} {mg : Str → Option Value} {base : Heap} {x qual : Str} {st : Stmt} {f : Addr} {fd : FuncData} {N ps : List Str} {k : Nat} {sp : SpU}
    (F : Fun K x qual st f fd) (S : FnScope N ps (defScope st))
    (hb : ∀ (kV doc pm : Value) (an : Option Addr) (cdv ct : Value) (us : List Value), us.length = ps.length → bindArgs (PySem.W.fnOf x qual (defArgs st) (defBody st) (defScope st) .none kV doc pm an cdv ct) ⟨us, []⟩ = pure (ps.zip us))
    (len : ∀ vs H Q, sp vs H Q → vs.length = ps.length)
    (hbody : ∀ (cdv : Value) (A : Around) (outer : List Env) (s : Shared) (H : Hp) (vs : List V) (Q : Nat → VK) (E : XK), Room k (A.deeper (envOfC qual (defScope st) s.heap.objs.size f cdv)) → sp vs H Q →
      ∃ t, PSsU (cxOf CX0 P w K mg base N qual (defScope st) f cdv A outer s H E) (defBody st) t ∧ t (start N vs) H Q) : FnU P w K mg base (k + 1) f sp := by
  obtain ⟨oc, od, kV, doc, pm, an, cdv, ct, osl, rfl, lk, hcd⟩ := F.ex
  intro A outer s H us vs Q E hr e0 r hsp
  have hl : us.length = ps.length := r.length.symm.trans (len _ _ _ hsp)
  have KX : K.In s.heap := e0.mod.kin.keeps fun b o e => (e0.bs b o e).1
  have lim : s.heap.NoLimit := e0.mod.nolimit.keeps fun b o e => (e0.bs b o e).1
  have hkind : ∀ y ∈ ps.zip us, (defScope st).names.lookup y.1 = some .local ∨ ((defScope st).names.lookup y.1 = some .cell ∧ ((cellsFrom (s.heap.objs.size + 1) (defScope st).names []).lookup y.1).isSome = true) := fun y hy => by
    rcases S.par y.1 (List.of_mem_zip hy).1 with q | q
    · exact .inl q
    · exact .inr ⟨q, PySem.W.cellsFrom_some _ _ _ (.inl q)⟩
  refine codeAny_call_function hr.depth (KX _ _ lk) rfl S.co S.gen rfl (PySem.W.codeRec_of KX hcd) (BindsTo.of_eq (hb kV doc pm an cdv ct us hl) _ _ _ _ ?_)
  refine wpAny_mono (wpAny_newFunctionEnv_cells S.kind hkind fun env he s1 x => (⟨he, x⟩ : env = _ ∧ InCallC s _ _ _ _ s1)) ?_ fun _ _ z => z
  rintro env s1 ⟨rfl, x⟩
  refine ⟨lim.keeps x.toInCall.keep, codeAny_func ?_⟩
  obtain ⟨t, he, hq⟩ := hbody cdv A outer s H vs Q E (hr.deeper _) hsp
  have I : Inv (cxOf CX0 P w K mg base N qual (defScope st) f cdv A outer s H E) [] (start N vs) H s1 := inv_start S hr.hd e0 (len _ _ _ hsp) r x
  refine wpAny_mono (he.run [] s1 _ H _ I hq) ?_ ?_
  · rintro fl s' ⟨u, rfl, v, σ', H', b, J, rv, lb, q⟩
    exact ⟨b, lb, (show CE outer P w H s (Q b) u s' from ⟨v, H', J.os, J.bare, J.base, J.hok, rv, q⟩)⟩
  · intro e s' h
    exact wpAny_mono h (fun _ _ h => ⟨0, Nat.zero_le _, h⟩) fun _ _ h => ⟨0, Nat.zero_le _, h⟩
/-- x = f(..), f tells a number: what follows may count on it -/
def tMark (i : Nat) (sp : SpU) (ta : TA) (u : Nat → TS) : TS := fun D σ H => ta σ H fun vs H1 => sp vs H1 fun b v H2 => u b D (σ.set i (some v)) H2
theorem pss_mark {X : Cx} {i k : Nat} {x y : Str} {f : Addr} {sp : SpU} {e : Expr} {es : List Expr} {ta : TA} {u : Nat → TS} {rest : List Stmt} {p p2 pos p3 : Pos} (hN : X.N.Nodup) (hi : X.N[i]? = some x) (hx : Loc X.env.scope x)
    (F : FnU X.prog X.w X.K X.mg X.base k f sp) (hr : Room k X.A) (hg : Gl X y) (hm : X.mg y = some (.ref f)) (hk : PySem.W.keepIn X.K (.ref f) = true) (ha : PA X (e :: es) ta) (hrest : ∀ b, PSsn b X rest (u b))
    (hs : swapsWith (.Call (.Name y p) (e :: es) [] pos) (some (.Name x p2)) p3.line X.env = pure false := by rfl) (hf : X.fn x = true ∨ X.env.scope.names.lookup x = some .local := by first | exact .inl rfl | exact .inr rfl | assumption)
    (hdb : (y == ("__debug__" : Str)) = false := by decide) (he : starEach (e :: es) X.env = (false, eval e X.env) :: starEach es X.env := by rfl) (hpl : (backTo pos (starEach es X.env)).any (·.1) = false := by rfl) :
    PSs X (.Assign [.Name x p2] (.Call (.Name y p) (e :: es) [] pos) p3 :: rest) (tMark i sp ta u) := by
  constructor
  intro pins s σ H D I h
  refine wpAny_execs_cons (wpAny_Assign_Name (wpAny_Call_Name_kw (ld_glob I hg hm ?_ hdb)) hs)
  refine PySem.W.callWith_K (h₀ := X.base) I.ok.mod.kin hk (thn (ha.run pos pins s σ H _ I h) ?_) he hpl
  rintro us s1 ⟨vs, H1, I1, r, q⟩
  refine ⟨I1.kIn, wpAny_call (codeAny_mono (F X.A X.stack s1 H1 us vs _ (fun _ _ _ => False) hr I1.env0 r q) fun r s' hq => ?_)⟩
  obtain ⟨b, lb, hq⟩ := hq
  cases r with
  | error e => exact pass0 pins σ H1 s1 e s' I1 hq
  | ok fl =>
    cases fl with
    | ret w =>
      obtain ⟨v, H', J, rv, q'⟩ := I1.after hq
      refine thk lb (store_ok (Q := fun _ s2 => Inv X pins (σ.set i (some v)) H' s2) J hN hi hx rv (fun s2 I2 => I2) hf) ?_
      exact fun _ s2 l2 I2 => (hrest b).run pins s2 _ H' D l2 I2 q'
    | next => exact False.elim hq
    | brk => exact False.elim hq
    | cont => exact False.elim hq
/-! ### letter = ..; return [letter, letter.upper(), .., .., ..] -/
def tFew (z : Str) (il : Nat) (tb t1 t2 t3 : TE) : L2.St → Hp → (Nat → VK) → Prop := fun σ H Q => tItemC z tb σ H fun v1 H1 => ∃ x1 : Str, v1 = .str x1 ∧ x1.length ≤ 1000 ∧
  t1 (σ.set il (some (.str x1))) H1 fun y1 H2 => ∃ c1 : Str, y1 = .str c1 ∧ t2 (σ.set il (some (.str x1))) H2 fun y2 H3 => ∃ c2 : Str, y2 = .str c2 ∧ t3 (σ.set il (some (.str x1))) H3 fun y3 H4 => ∃ c3 : Str, y3 = .str c3 ∧
    ∀ b p H5, H4 p = none → TxtsB b H5 p [x1, Txt.upper x1, c1, c2, c3] → (∀ b', b' ≠ p → H5 b' = H4 b') → Q b (.ref p) H5
theorem pss_few {X : Cx} {z : Str} {il : Nat} {lx : Str} {b1 e1 e2 e3 : Expr} {tb t1 t2 t3 : TE} {j1 : Nat} {a1 c1 d1 p1 q1 q2 q3 q4 d3 p3 : Pos} (hN : X.N.Nodup) (hl : X.N[il]? = some lx)
    (ll : X.env.scope.names.lookup lx = some .local) (h0 : PE X b1 tb) (s1 : PlainIxT b1) (h1 : PEF X e1 t1) (h2 : PEF X e2 t2) (h3 : PEF X e3 t3) (dl : (lx == ("__debug__" : Str)) = false)
    (hs1 : swapsWith (.Subscript (.Constant (.str z) j1 c1) b1 d1) (some (.Name lx a1)) p1.line X.env = pure false)
    (hst : starEach [.Name lx q1, .Call (.Attribute (.Name lx q2) "upper" q3) [] [] q4, e1, e2, e3] X.env =
      [(false, eval (.Name lx q1) X.env), (false, eval (.Call (.Attribute (.Name lx q2) "upper" q3) [] [] q4) X.env), (false, eval e1 X.env), (false, eval e2 X.env), (false, eval e3 X.env)])
    (hbase : attributeBase (.Name lx q2) "upper" X.env (eval (.Name lx q2) X.env) = eval (.Name lx q2) X.env) (hline : (q3.endLine == q4.line) = true) :
    PSsU X [.Assign [.Name lx a1] (.Subscript (.Constant (.str z) j1 c1) b1 d1) p1,
      .Return (some (.List [.Name lx q1, .Call (.Attribute (.Name lx q2) "upper" q3) [] [] q4, e1, e2, e3] d3)) p3] (tFew z il tb t1 t2 t3) := by
  constructor
  intro pins s σ H Q I h
  refine wpAny_execs_cons (wpAny_Assign_Name (thn ((pef_item h0 s1).run pins s σ H _ I h) ?_) hs1)
  rintro u1 t1' ⟨⟨v1, H1, I1, r1, x1, rfl, hx1, h'⟩, l1, y1, k1, rfl, k1a, k1b⟩
  obtain rfl : y1 = x1 := by obtain ⟨_, e⟩ := r1; injection e
  refine store_raw (v := V.str y1) I1 hN hl ll r1 fun t2' I2 K2 _ l2 => ?_
  refine wpAny_execs_cons (wpAny_Return_some (wpAny_List_spliced ?_))
  rw [hst]
  show wpAny _ _ (spliced ((false, eval (.Name lx q1) X.env) :: (false, eval (.Call (.Attribute (.Name lx q2) "upper" q3) [] [] q4) X.env) :: (false, eval e1 X.env) :: (false, eval e2 X.env) :: [(false, eval e3 X.env)])) _ _ _
  refine Calls.spliced_cons (K2.load I2 (Calls.spliced_cons ?_) dl)
  refine PySem.Call_method0 hbase hline (K2.load I2 ?_ dl)
  refine ⟨"str", _, F.plainAttrs_str, F.slot_str_upper, F.type_str_upper, typeIs_str _ _ _, (fun _ e => nomatch e), Calls.callWith_builtin rfl (PySem.evalArgs_none ?_)⟩
  have fit : Builtin.Str.tooLong (Txt.upper y1).length = false := PyProof.Rows.short24 (by have := PyProof.Rows.len_upper y1; omega)
  refine PySem.SC.upper fit (Calls.spliced_cons ?_)
  refine thn (h1.run pins _ _ H1 _ (I2.tok _) h') ?_
  rintro u3 t3' ⟨⟨w1, H2, I3, r3, c1', rfl, g2⟩, m1, z1, n1, rfl, n1a, n1b⟩
  obtain rfl : z1 = c1' := by obtain ⟨_, e⟩ := r3; injection e
  refine Calls.spliced_cons (thn (h2.run pins _ _ H2 _ I3 g2) ?_)
  rintro u4 t4' ⟨⟨w2, H3, I4, r4, c2', rfl, g3⟩, m2, z2, n2, rfl, n2a, n2b⟩
  obtain rfl : z2 = c2' := by obtain ⟨_, e⟩ := r4; injection e
  refine Calls.spliced_cons (thn (h3.run pins _ _ H3 _ I4 g3) ?_)
  rintro u5 t5' ⟨⟨w3, H4, I5, r5, c3', rfl, fin⟩, m3, z3, n3, rfl, n3a, n3b⟩
  obtain rfl : z3 = c3' := by obtain ⟨_, e⟩ := r5; injection e
  refine Calls.spliced_nil ⟨by show 5 ≤ sizeLine; decide, ?_⟩
  have tk : TkL (s.toks + 1) t5'.toks [y1, Txt.upper y1, z1, z2, z3] [.str y1 k1, .str (Txt.upper y1) t2'.toks, .str z1 n1, .str z2 n2, .str z3 n3] := by
    refine .cons (k := t2'.toks) k1a (Nat.lt_of_lt_of_le k1b l2) (.cons (k := t2'.toks + 1) (Nat.le_refl _) (Nat.lt_succ_self _) (.cons (k := t3'.toks) ?_ n1b (.cons (k := t4'.toks) ?_ n2b (.cons (k := t5'.toks) ?_ n3b (.nil (Nat.le_refl _))))))
    · exact Nat.le_of_succ_le n1a
    · exact Nat.le_of_succ_le n2a
    · exact Nat.le_of_succ_le n3a
  have new : H4 t5'.heap.objs.size = none := I5.hok.fresh (Nat.le_refl _)
  refine ⟨_, rfl, .ref t5'.heap.objs.size, σ.set il (some (V.str y1)), upd H4 t5'.heap.objs.size (.frz { cls := .type "list", data := .seq [Value.str y1 k1, .str (Txt.upper y1) t2'.toks, .str z1 n1, .str z2 n2, .str z3 n3].toArray } (.lst ([y1, Txt.upper y1, z1, z2, z3].map .str))), t5'.toks, ?_, rfl, Nat.le_refl _, ?_⟩
  · exact I5.laid (t' := t5'.toks) (fun b o q => Heap.get?_push_of_some _ q) (Nat.le_refl _) ⟨Heap.get?_push_size _ rfl, by show 5 ≤ sizeLine; decide, _, 0, tk.vals, Heap.get?_push_size _ rfl⟩
  · exact fin _ _ _ new ⟨_, 0, _, _, upd_same, tk, by omega, Nat.le_refl _⟩ fun b hb => upd_ne hb
end Pd

set_option maxHeartbeats 4000000
namespace Pd
open PySem PySem.Spec PyProof.Rows L2
/-! ### a for, its body run where n tokens are out -/
theorem psn_for {n : Nat} {X : Cx} {tg over : Expr} {sts : List Stmt} {wi : TI} {g : TG} {tb : TS} {pos : Pos} (own : PassesOwn (model X.prog X.w) X.A X.env X.xe) (calm : X.calm = true) (hi : PI X tg over wi) (hg : PG X tg g) (hb : PSsn n X sts tb)
    (fs : ∀ x, foldedSetIterable over X.env x = pure x := by intro _; rfl) : PSn n X (.For tg over sts [] pos) (tFor wi g tb) := by
  constructor
  intro pins s σ H D l0 I h
  refine wpAny_For (thk l0 (hi.run pins s σ H _ I h) fun v t1 m1 k1 => thk m1 k1 fun iv t2 m2 k2 => ?_) fs
  obtain ⟨it, fp, tn, J, H2, rfl, I2, T, at2, fr2, W, ⟨q0, w0⟩, turn⟩ := k2
  have same : ∀ {G : Hp}, (∀ b ∈ fp, G b = none) → ∀ b ∈ fp, FpOk X pins G b := fun z b hb => ⟨z b hb, (fr2 b hb).2⟩
  refine codeAny_forLoop_any (fun c u => n ≤ u.toks ∧ ∃ i ρ G, Inv X pins ρ G u ∧ tn i u.heap ∧ (∀ b ∈ fp, G b = none) ∧ W i c ρ G) ?_ q0 ⟨m2, 0, σ, H2, I2, at2, fun b hb => (fr2 b hb).1, w0⟩
  rintro c u3 ⟨l3, i, ρ, G3, J3, at3, fr3, w3⟩
  rcases turn i c ρ G3 w3 with ⟨stop, fin⟩ | ⟨go, N, hN, step⟩
  · refine wpAny_passesOwn own (thn (T.done X rfl rfl rfl calm i pins u3 ρ G3 X.xe J3 (same fr3) at3 stop) ?_)
    rintro r u4 ⟨rfl, J4⟩
    exact wpAny_execs_nil ⟨ρ, G3, J4, fin⟩
  refine wpAny_passesOwn own (thk l3 (T.item X rfl rfl rfl calm i pins u3 ρ G3 X.xe J3 (same fr3) at3 go) ?_)
  rintro r u4 l4 ⟨z, rfl, k4⟩
  refine wpAny_passesOwn own (thk l4 k4 ?_)
  rintro _ u5 l5 ⟨x, G5, J5, r5, y5, at5, fr5⟩
  have J6 := J5.pinned (same fr5) (T.obj _ _ at5)
  refine wpAny_passesOwn own (thk l5 (hg.run _ u5 ρ G5 x z _ J6 r5 (step x G5 y5)) ?_)
  rintro _ u6 l6 ⟨ρ6, G6, J7, q6⟩
  refine wpAny_passesOwn own (thk l6 (hb.run _ u6 ρ6 G6 _ l6 J7 q6) ?_)
  intro f u7 l7 q7
  have more : ∀ {ρ7 : L2.St} {G7 : Hp}, Inv X (pins ++ pinsAt fp u5.heap) ρ7 G7 u7 → N ρ7 G7 → ∃ m, m < c ∧ n ≤ u7.toks ∧ ∃ i ρ' G', Inv X pins ρ' G' u7 ∧ tn i u7.heap ∧ (∀ b ∈ fp, G' b = none) ∧ W i m ρ' G' := by
    intro ρ7 G7 K7 n7
    obtain ⟨m', lt, w7⟩ := hN ρ7 G7 n7
    have pin : ∀ b ∈ fp, ∀ o, u5.heap.get? b = some o → _ := fun b hb o e => K7.pin (b, o) (List.mem_append_right _ (List.mem_append_right _ (mem_pinsAt hb e)))
    refine ⟨m', lt, l7, i + 1, ρ7, G7, K7.unpinned, T.keep _ _ _ at5 fun b hb o e => (pin b hb o e).1, fun b hb => ?_, w7⟩
    obtain ⟨o, e, _⟩ := T.obj _ _ at5 b hb
    exact (pin b hb o e).2.1
  cases f with
  | next => obtain ⟨ρ7, G7, K7, n7⟩ := q7; exact more K7 n7
  | cont => obtain ⟨ρ7, G7, K7, n7⟩ := q7; exact more K7 n7
  | brk => obtain ⟨ρ7, G7, K7, e7⟩ := q7; exact ⟨ρ7, G7, K7.unpinned, e7⟩
  | ret v => obtain ⟨x7, ρ7, G7, K7, r7, e7⟩ := q7; exact ⟨x7, ρ7, G7, K7.unpinned, r7, e7⟩
/-- two names at once, n tokens out -/
theorem psn_par {n : Nat} {X : Cx} {i j : Nat} {kx ky : Str} {e1 e2 : Expr} {tl : TA} {b1 b2 b3 b4 b5 : Pos} {k1 k2 : Nat} (calm : X.calm = true) (nd : X.N.Nodup) (hi : X.N[i]? = some kx) (hj : X.N[j]? = some ky) (ne : i ≠ j)
    (vx : X.env.scope.names.lookup kx = some .local) (vy : X.env.scope.names.lookup ky = some .local) (ha : PAn n X [e1, e2] tl)
    (sw : swappedStores [.Tuple [.Name kx b1, .Name ky b2] k1 b3] (.Tuple [e1, e2] k2 b4) X.env = pure (some [kx, ky]))
    (sole : swapsWithSole [.Tuple [.Name kx b1, .Name ky b2] k1 b3] (.Tuple [e1, e2] k2 b4) b5.line X.env = pure false := by rfl) :
    PSn n X (.Assign [.Tuple [.Name kx b1, .Name ky b2] k1 b3] (.Tuple [e1, e2] k2 b4) b5) (tPar i j tl) := by
  constructor
  intro pins s σ H D l0 I h
  rw [exec_Assign_arm]
  refine wpAny_bind (wpAny_standAt ?_)
  rw [sole]
  refine wpAny_bind (wpAny_pure ?_)
  rw [if_neg (by decide)]
  refine wpAny_bind (Tuple_ (thn (ha.run _ pins s σ H _ l0 I h) ?_))
  rintro us t1 ⟨vs, H1, J1, rs, v, z, rfl, fin⟩
  have two : ∃ c d, us = [c, d] ∧ RelV v c ∧ RelV z d := by
    rcases rs with _ | ⟨rv, rs⟩
    rcases rs with _ | ⟨rz, rs⟩
    cases rs
    exact ⟨_, _, rfl, rv, rz⟩
  obtain ⟨c, d, rfl, rv, rz⟩ := two
  refine wpAny_newObj_type ?_ (by show 2 ≤ sizeLine; decide)
  have J2 : Inv X pins σ H1 { t1 with heap := t1.heap.push { cls := .type "tuple", data := .seq [c, d].toArray } } := J1.kept (t' := t1.toks) fun b o q => Heap.get?_push_of_some _ q
  rw [sw]
  refine wpAny_bind (wpAny_pure ?_)
  show wpAny (model X.prog X.w) X.A (do rule "assign.swapped-stores"; let items ← unpackItems (.ref t1.heap.objs.size) 2 none; assignInOrder [fun v => bindName X.env ky v, fun v => bindName X.env kx v] items.reverse; pure Flow.next) _ _ _
  refine wpAny_bind (wpAny_rule (wpAny_bind (unpackItems_tuple (items := #[c, d]) (I.ok.hd calm) (IsTup.new t1.heap _) fun g hg => ?_)))
  have J3 := J2.kept (h' := g) (t' := t1.toks) fun b o q => hg b o (Nat.ne_of_lt (Heap.lt_size q)) q
  show wpAny _ _ (assignInOrder [fun v => bindName X.env ky v, fun v => bindName X.env kx v] [d, c] >>= fun _ => pure Flow.next) _ _ _
  refine wpAny_bind (assignInOrder_cons (wpAny_bindName (store_ok J3 nd hj (.inl vy) rz (fun t2 J4 => ?_) (.inr vy))))
  refine assignInOrder_cons (wpAny_bindName (store_ok J4 nd hi (.inl vx) rv (fun t3 J5 => assignInOrder_nil (wpAny_pure ?_)) (.inr vx)))
  rw [List.set_comm _ _ (Ne.symm ne)] at J5
  exact ⟨_, H1, J5, fin⟩
theorem PSsn.nox {n : Nat} {X : Cx} {sts : List Stmt} {t : TS} (h : PSsn n X.nox sts t) : PSsn n X sts t :=
  ⟨fun pins s σ H D l I q => wpAny_mono (h.run pins s σ H D l (I.wish _) q) (fun _ _ z => z.unwish) fun _ _ z => z.elim⟩
end Pd

set_option maxHeartbeats 4000000
namespace Pd
open PySem PySem.Spec PyProof.Rows L2
/-! ### or in a test, and as a value, n tokens out -/
structure PWn (n : Nat) (X : Cx) (e : Expr) (t : TT) : Prop where
  run : ∀ (whole : Sem Value) (pins : List (Addr × Obj)) (s : Shared) (σ : L2.St) (H : Hp) (Q : Bool → Hp → Prop), n ≤ s.toks → Inv X pins σ H s → t σ H Q → wpAny (model X.prog X.w) X.A (isTrue e X.env whole) (TP X pins σ Q) X.xe s
section
variable {X : Cx} {n : Nat} {a b : Expr} {more : List Expr} {t u : TT} {pos : Pos}
theorem PWn.ptn {e : Expr} (h : PWn n X e t) : PTn n X e t := ⟨fun pins s σ H Q l I q => h.run _ pins s σ H Q l I q⟩
theorem pwn_or1 (ha : PTn n X a t) : PWn n X (.BoolOp .Or [a] pos) t := by
  constructor
  intro wh pins s σ H Q l I h
  refine isTrue_or (thn (ha.run pins s σ H Q l I h) ?_)
  rintro (_ | _) s1 q
  · exact isTrue_or_nil q
  · exact q
theorem pwn_or (ha : PTn n X a t) (hb : PWn n X (.BoolOp .Or (b :: more) pos) u) : PWn n X (.BoolOp .Or (a :: b :: more) pos) (tOr t u) := by
  constructor
  intro wh pins s σ H Q l I h
  refine isTrue_or (thk l (ha.run pins s σ H _ l I h) ?_)
  rintro (_ | _) s1 l1 ⟨H1, I1, q⟩
  · exact hb.run wh pins s1 σ H1 Q l1 I1 q
  · exact ⟨H1, I1, q⟩
theorem pen_one {op} {e : Expr} {te : TE} (h : PEn n X e te) : PEn n X (.BoolOp op [e] pos) te := ⟨fun pins s σ H Q l I q => BoolOp_one (h.run pins s σ H Q l I q)⟩
theorem pen_and {ta tb : TE} (ha : PEn n X a ta) (hb : PEn n X (.BoolOp .And (b :: more) pos) tb) : PEn n X (.BoolOp .And (a :: b :: more) pos) (tAndV ta tb) := by
  constructor
  intro pins s σ H Q l I h
  refine BoolOp_and (thk l (ha.run pins s σ H _ l I h) ?_)
  rintro v s1 l1 ⟨x, H1, I1, r1, c, rfl, q⟩
  cases r1
  refine wpAny_truthy_bool ?_
  cases c
  · exact ⟨.bl false, H1, I1, rfl, q⟩
  · exact hb.run pins s1 σ H1 Q l1 I1 q
end
/-- what is known behind a statement is said, n tokens out -/
theorem pssn_cut {n : Nat} {X : Cx} {st : Stmt} {sts : List Stmt} {t u : TS} (h1 : PSn n X st t) (h2 : PSsn n X sts u) : PSsn n X (st :: sts) (C8.tCut t u) := by
  constructor
  intro pins s σ H D l I h
  obtain ⟨Mid, q1, q2⟩ := h
  refine wpAny_execs_cons (thk l (h1.run pins s σ H { D with nx := Mid } l I q1) ?_)
  rintro f s1 l1 q
  cases f with
  | next =>
    obtain ⟨ρ, G, J, m⟩ := q
    exact h2.run pins s1 ρ G D l1 J (q2 ρ G m)
  | ret v => exact q
  | brk => exact q
  | cont => exact q
end Pd

set_option maxHeartbeats 4000000
namespace Pd
open PySem PySem.Spec PyProof.Rows L2
/-! ### name = [..], n tokens out, the name a local -/
set_option maxHeartbeats 4000000 in
theorem psn_setLc {n i : Nat} {y : Str} {py spos : Pos} {X : Cx} {elt tg iter : Expr} {ifs : List Expr} {scope : Scope} {own : List (Str × Nat)} {pos : Pos} {wi : TI} {g : TG} {tt : TT} {te : TE} (hc : X.calm = true) (hN : X.N.Nodup) (hy : X.N[i]? = some y) (hyl : X.env.scope.names.lookup y = some .local)
    (hsw : swapsWith (.ListComp elt [⟨tg, iter, ifs, 0⟩] scope pos) (some (.Name y py)) spos.line X.env = pure true) (hi : PI X tg iter wi) (ok : BlkOk X.N X.env.scope scope own)
    (hg : ∀ (s : Shared) (H : Hp) (C : Addr) (cl : List (Str × Addr)) (fp : List Addr), PG (X.blk s H scope (compEnvC scope cl C X.env) fp) tg g)
    (ht : ∀ (s : Shared) (H : Hp) (C : Addr) (cl : List (Str × Addr)) (fp : List Addr), PTs (X.blk s H scope (compEnvC scope cl C X.env) fp) ifs tt)
    (he : ∀ (s : Shared) (H : Hp) (C : Addr) (cl : List (Str × Addr)) (fp : List Addr), PEn n (X.blk s H scope (compEnvC scope cl C X.env) fp) elt te) (hs : ∀ x, foldedSetIterable iter X.env x = pure x := by intro _; rfl) :
    PSn n X (.Assign [.Name y py] (.ListComp elt [⟨tg, iter, ifs, 0⟩] scope pos) spos) (tAsg (tLc wi g tt te (own.map (·.2))) (gName i)) := by
  constructor
  intro pins s σ H DD l0 I h
  rw [exec_Assign_Name_used _ _ _ _ hsw]
  refine wpAny_bind (wpAny_standAt (wpAny_bind ?_))
  show wpAny _ X.A (do let _ ← comprehension (.ListComp elt [⟨tg, iter, ifs, 0⟩] scope pos) scope X.env (firstIterPos [⟨tg, iter, ifs, 0⟩] pos) (newList []) false (eval iter X.env) (some (assign (.Name y py) X.env))) _ _ s
  have h : tLc wi g tt te (own.map (·.2)) σ H (fun x H1 => gName i x σ H1 DD.nx) := h
  refine wpAny_bind (thn (Q := fun _ s' => SP X pins DD .next s') ?_ fun _ s' hq => wpAny_pure (wpAny_pure hq))
  have hf : ∀ y ∈ scope.names, y.2 = .free → ∃ c, X.env.cells.lookup y.1 = some c := by
    intro y hy e
    rcases ok.free y hy e with k | k
    · exact I.ok.has _ (.inl k)
    · exact I.ok.has _ (.inr k)
  refine wpAny_comprehension_free (use := some (assign (.Name y py) X.env)) rfl hs (closure_ok hf) ok.kind (fun y hy e => by rw [ok.uniq y hy, e]) (thk l0 (hi.run pins s σ H _ I h) ?_)
  intro xv s1 l1 hx
  refine thk l1 hx ?_
  rintro itv s2 l2 ⟨it, fp, tn, J, H2, rfl, I2, T, st2, f2, q⟩
  refine wpAny_newObj_type (newEnv_comp ?_) (by show 0 ≤ sizeLine; decide)
  generalize hD : s2.heap.objs.size = D
  have dn : H2 D = none := I2.hok.fresh (Nat.le_of_eq hD)
  obtain ⟨W, ⟨m0, w0⟩, turn⟩ := q D dn
  generalize hs3 : ({ s2 with heap := s2.heap.push { cls := .type "list", data := .seq ([] : List Value).toArray } } : Shared) = s3
  have t3 : s3.toks = s2.toks := by rw [← hs3]
  have h3 : s3.heap = s2.heap.push { cls := .type "list", data := .seq ([] : List Value).toArray } := by rw [← hs3]
  have I3 : Inv X pins σ (upd H2 D (.lst [])) s3 := by
    rw [← hs3]
    refine I2.laid (t' := s2.toks) (fun b o e => Heap.get?_push_of_some _ e) (Nat.le_of_eq hD) ⟨Nat.zero_le _, [], 0, .nil, ?_⟩
    rw [← hD]
    exact Heap.get?_push_size _ rfl
  have sz : ∀ b ∈ fp, b < s2.heap.objs.size := by
    intro b hb
    obtain ⟨o, e, _⟩ := T.obj _ _ st2 b hb
    exact Heap.lt_size e
  have f3 : ∀ b ∈ fp, FpOk X pins (upd H2 D (.lst [])) b ∧ b < s3.heap.objs.size := by
    intro b hb
    have z := sz b hb
    refine ⟨⟨?_, (f2 b hb).2⟩, by rw [h3, Heap.size_push]; exact Nat.lt_succ_of_lt z⟩
    rw [upd_ne (by rw [← hD]; exact Nat.ne_of_lt z)]
    exact (f2 b hb).1
  have st3 : tn 0 s3.heap := T.keep _ _ _ st2 fun b _ o e => by rw [h3]; exact Heap.get?_push_of_some _ e
  have I4 := block_start I3 ok hN f3
  have pg := hg s3 (upd H2 D (.lst [])) s3.heap.objs.size (cellsFrom (s3.heap.objs.size + 1) scope.names (cloFrom X.env.cells scope.names [])) fp
  have pt := ht s3 (upd H2 D (.lst [])) s3.heap.objs.size (cellsFrom (s3.heap.objs.size + 1) scope.names (cloFrom X.env.cells scope.names [])) fp
  have pe := he s3 (upd H2 D (.lst [])) s3.heap.objs.size (cellsFrom (s3.heap.objs.size + 1) scope.names (cloFrom X.env.cells scope.names [])) fp
  have nfp : ∀ b ∈ fp, (upd H2 D (.lst [])) b = none := fun b hb => (f3 b hb).1.1
  show codeAny _ _ (.compStart (.ListComp elt [⟨tg, iter, ifs, 0⟩] scope pos) 0 (.ref it) (.ref D) (compEnvC scope (cellsFrom (s3.heap.objs.size + 1) scope.names (cloFrom X.env.cells scope.names [])) s3.heap.objs.size X.env))
    (compPost (model X.prog X.w) X.A X.xe (some (assign (.Name y py) X.env)) (fun _ s' => SP X pins DD .next s') (.ref D) s3.heap.objs.size) { s3 with heap := pushCells (s3.heap.push { cls := .type "dict", data := .dict #[] }) scope.names }
  generalize hce : compEnvC scope (cellsFrom (s3.heap.objs.size + 1) scope.names (cloFrom X.env.cells scope.names [])) s3.heap.objs.size X.env = ce at I4 pg pt pe ⊢
  have cL : ce.locals = s3.heap.objs.size := by subst hce; rfl
  generalize hH3 : upd H2 D (.lst []) = H3 at I3 I4 pg pt pe w0 nfp f3
  generalize hs4 : ({ s3 with heap := pushCells (s3.heap.push { cls := .type "dict", data := .dict #[] }) scope.names } : Shared) = s4 at I4 ⊢
  have l4 : n ≤ s4.toks := by rw [← hs4]; show n ≤ s3.toks; rw [t3]; exact l2
  have st4 : tn 0 s4.heap := T.keep _ _ _ st3 fun b _ o e => by rw [← hs4]; exact pushCells_keeps _ _ _ _ (Heap.get?_push_of_some _ e)
  have stat : ∀ {σ' : L2.St} {H' : Hp} {s' : Shared}, Inv (X.blk s3 H3 scope ce fp) [] σ' H' s' → (∀ b ∈ fp, H' b = none) → ∀ b ∈ fp, FpOk (X.blk s3 H3 scope ce fp) [] H' b := fun {σ' H' s'} I' hn b hb =>
    ⟨hn b hb, (I'.ok.exf b hb).1, I'.ok.exfs b hb, .inl hb, fun x c e => (I'.ok.exf b hb).2 x c e, fun p hp => absurd (show p ∈ ([] : List (Addr × Obj)) ++ [] from hp) (by simp)⟩
  have loop : codeAny (model X.prog X.w) X.A (.compLoop (.ListComp elt [⟨tg, iter, ifs, 0⟩] scope pos) 0 (.ref it) (.ref D) ce) (compPost (model X.prog X.w) X.A X.xe (some (assign (.Name y py) X.env)) (fun _ s' => SP X pins DD .next s') (.ref D) s3.heap.objs.size) s4 := by
    refine compLoop_any (fun m s' => n ≤ s'.toks ∧ ∃ i H', Inv (X.blk s3 H3 scope ce fp) [] (wipe σ (own.map (·.2))) H' s' ∧ tn i s'.heap ∧ (∀ b ∈ fp, H' b = none) ∧ W i m H') ?_ m0 ⟨l4, 0, H3, I4, st4, nfp, w0⟩
    rintro m s5 ⟨l5, i, H5, I5, st5, n5, w5⟩
    rcases turn i m H5 w5 with ⟨stop, qq⟩ | ⟨go, Nx, hNx, step⟩
    · refine thnF (T.done (X.blk s3 H3 scope ce fp) rfl rfl rfl hc i [] s5 _ H5 (fun _ _ => False) I5 (stat I5 n5) st5 stop) ?_
      rintro r s6 ⟨rfl, I6⟩
      have I7 : Inv X pins σ H5 s6 := I3.call' (ch := fp) I6.os I6.base I6.hok I6.bare fun b hb => ⟨(f3 b hb).1.2.2.2.1, (f3 b hb).1.2.1, (f3 b hb).1.2.2.2.2.1, (f3 b hb).1.2.2.2.2.2⟩
      have nC : H5 s3.heap.objs.size = none := by
        have z : H5 ce.locals = none := I6.free
        rw [cL] at z
        exact z
      obtain ⟨mm, hn, _⟩ := I6.loc
      have hn : s6.heap.Ns ce.locals mm := hn
      rw [cL] at hn
      show wpAny _ _ (assign (.Name y py) X.env (.ref D)) _ _ _
      refine wpAny_assign_Name (store_ok2 (v := V.ref D) I7 hN hy (.inl hyl) rfl (fun s2' I2' ⟨a, sb, ha⟩ => ?_) (.inr hyl))
      obtain ⟨g0, g1, g2, g3, g4, g5⟩ := I3.fpOk (H' := H5) (Nat.le_refl _) nC
      have haC : s3.heap.objs.size ≠ a := by
        rcases ha with z | z
        · rw [z]; exact g1
        · exact fun e => g4 y a z e.symm
      refine ⟨mm, hn.sameBut sb haC, fun h3 sb3 => ?_⟩
      exact ⟨_, H5, I2'.turned (t' := s2'.toks) (fun b o hb e => (sb3.2 b hb).trans e) g0 g1 g3 g4 g5, qq⟩
    · refine thnF (tkE l5 (T.item (X.blk s3 H3 scope ce fp) rfl rfl rfl hc i [] s5 _ H5 (fun _ _ => False) I5 (stat I5 n5) st5 go)) ?_
      rintro r s6 ⟨l6, u, rfl, h6⟩
      refine thnF (tkE l6 h6) ?_
      rintro _ s7 ⟨l7, x, H7, I7, r7, y7, st7, n7⟩
      have I7' := I7.pinned (stat I7 n7) (T.obj _ _ st7)
      refine thnF (tkE l7 (pg.run _ s7 _ H7 x u _ I7' r7 (step x H7 y7))) ?_
      rintro _ s8 ⟨l8, σ8, H8, I8, hw8, q8⟩
      refine thnF (tkE l8 (pt.run _ s8 σ8 H8 _ I8 q8)) ?_
      rintro b s9 ⟨l9, H9, I9, q9⟩
      have fin : ∀ {s' : Shared} {H' : Hp}, n ≤ s'.toks → Inv (X.blk s3 H3 scope ce fp) ([] ++ pinsAt fp s7.heap) σ8 H' s' → Nx H' →
          ∃ m', m' < m ∧ n ≤ s'.toks ∧ ∃ i H', Inv (X.blk s3 H3 scope ce fp) [] (wipe σ (own.map (·.2))) H' s' ∧ tn i s'.heap ∧ (∀ b ∈ fp, H' b = none) ∧ W i m' H' := by
        intro s' H' ls I' nx
        obtain ⟨m', hm, w'⟩ := hNx H' nx
        have pin' : ∀ b ∈ fp, ∀ o, s7.heap.get? b = some o → s'.heap.get? b = some o ∧ H' b = none := fun b hb o e =>
          let z := I'.pin (b, o) (List.mem_append_right _ (List.mem_append_right _ (mem_pinsAt hb e)))
          ⟨z.1, z.2.1⟩
        have hl : (wipe σ (own.map (·.2))).length = σ8.length := by rw [← hw8, wipe_length]
        refine ⟨m', hm, ls, i + 1, H', (I'.unpinned (pins := [])).weak hl (fun j v e => ?_), T.keep _ _ _ st7 fun b hb o e => (pin' b hb o e).1, fun b hb => ?_, w'⟩
        · rw [← hw8] at e
          exact (wipe_some e).1
        · obtain ⟨o, e, _⟩ := T.obj _ _ st7 b hb
          exact (pin' b hb o e).2
      cases b with
      | false =>
        simp only [Bool.false_eq_true, if_false] at q9 ⊢
        exact fin l9 I9 q9
      | true =>
        simp only [if_true] at q9 ⊢
        refine thnF (tkE l9 (pe.run _ s9 σ8 H9 _ l9 I9 q9)) ?_
        rintro z s10 ⟨l10, yv, H10, I10, r10, acc, hD10, hz10, nx⟩
        refine thnF (tkE l10 (app_ok (X := X.blk s3 H3 scope ce fp) (Q := fun _ s' => Inv (X.blk s3 H3 scope ce fp) ([] ++ pinsAt fp s7.heap) σ8 (upd H10 D (.lst (acc ++ [yv]))) s') I10 hD10 hz10 r10 fun s11 I11 => I11)) ?_
        rintro _ s11 ⟨l11, I11⟩
        exact fin l11 I11 nx
  exact codeAny_compStart_list loop (T.self X.A 0 _ _ _ st4 loop)
end Pd

set_option maxHeartbeats 4000000
namespace Pd
open PySem PySem.Spec PyProof.Rows L2 SX
/-! ### sizes of what split gives -/
theorem spl_len {s : List Nat} : ∀ (x : List Nat) (k : Nat) (acc : List Nat), (∀ p ∈ TL.spl s k acc x, p.length ≤ acc.length + x.length) ∧ (TL.spl s k acc x).length ≤ x.length + 1
  | [], k, acc => by
    rw [TL.spl_nil]
    exact ⟨fun p hp => by rw [List.mem_singleton.mp hp]; omega, by simp⟩
  | c :: r, 0, acc => by
    have e : TL.spl s 0 acc (c :: r) = if TL.pre s (c :: r) = true then acc :: TL.spl s (s.length - 1) [] r else TL.spl s 0 (acc ++ [c]) r := rfl
    rw [e]
    by_cases h : TL.pre s (c :: r) = true
    · rw [if_pos h]
      obtain ⟨i1, i2⟩ := spl_len (s := s) r (s.length - 1) []
      refine ⟨fun p hp => ?_, by rw [List.length_cons, List.length_cons]; omega⟩
      rcases List.mem_cons.mp hp with rfl | hp
      · omega
      · have := i1 p hp
        rw [List.length_nil] at this
        rw [List.length_cons]; omega
    · rw [if_neg h]
      obtain ⟨i1, i2⟩ := spl_len (s := s) r 0 (acc ++ [c])
      refine ⟨fun p hp => ?_, by rw [List.length_cons]; omega⟩
      have := i1 p hp
      rw [List.length_append] at this
      simp only [List.length_cons, List.length_nil] at this ⊢
      omega
  | c :: r, k + 1, acc => by
    obtain ⟨i1, i2⟩ := spl_len (s := s) r k acc
    refine ⟨fun p hp => ?_, ?_⟩
    · have := i1 p hp
      rw [List.length_cons]; omega
    · show (TL.spl s k acc r).length ≤ _
      rw [List.length_cons]; omega
theorem w_len {x : List Nat} : (∀ p ∈ spl32 x, p.length ≤ x.length) ∧ (spl32 x).length ≤ x.length + 1 := by
  have h := spl_len (s := [32]) x 0 []
  simpa [spl32] using h
theorem p_len {x : List Nat} : (∀ p ∈ spl2 x, p.length ≤ x.length) ∧ (spl2 x).length ≤ x.length + 1 := by
  have h := spl_len (s := [59, 32]) x 0 []
  simpa [spl2] using h
theorem splS32 (x : List Nat) : Txt.split (S x) " " = (spl32 x).map S := by
  rw [space_S]
  exact split_S (by decide) (by decide)
theorem splS2 (x : List Nat) : Txt.split (S x) "; " = (spl2 x).map S := by
  rw [semi_S]
  exact split_S (by decide) (by decide)
theorem untild_S (l : List Nat) : Txt.replace (S l) "~" " " = S (l.map untild) := by
  have e1 : (" " : Str) = sg 32 := by decide +kernel
  have e2 : ("~" : Str) = sg 126 := by decide +kernel
  rw [e1, e2, replace_mk]
  rfl
theorem cut_tail {xs : List V} : cutV xs (some 1) none = xs.tail := by
  by_cases h1 : 1 ≤ xs.length
  · have e1 : HT.sIx xs.length 0 (some 1) = 1 := by
      have := HT.sIx_nat xs.length 0 1
      rw [show ((1 : Nat) : Int) = 1 from rfl] at this
      rw [this]; omega
    unfold cutV
    rw [e1, HT.sIx_none, List.take_of_length_le (by rw [List.length_drop]; exact Nat.le_refl _), List.drop_one]
  · have : xs = [] := List.eq_nil_of_length_eq_zero (by omega)
    subst this
    unfold cutV
    simp
theorem tailL {K : PySem.W.Frag} {σ : L2.St} {H : Hp} {a : Addr} {xs : List V} {Q : VK} (h : SqL K H a xs) (q : ∀ p, H p = none → Q (.ref p) (L2.upd H p (.lst xs.tail))) : tNoPart σ H fun u H3 => rSlL K (.ref a) (some 1) u H3 Q := by
  refine ⟨a, xs, rfl, h, fun p hp => ?_⟩
  rw [cut_tail]
  exact q p hp
theorem digits10 : ("0123456789" : Str) = S [48, 49, 50, 51, 52, 53, 54, 55, 56, 57] := by decide +kernel
theorem dig_mem {d : Nat} : d ∈ ([48, 49, 50, 51, 52, 53, 54, 55, 56, 57] : List Nat) ↔ 48 ≤ d ∧ d ≤ 57 := by
  simp only [List.mem_cons, List.not_mem_nil, or_false]; omega
theorem int_dig {d : Nat} (h : 48 ≤ d ∧ d ≤ 57) : PySem.intText? (S [d]) = some ((d : Int) - 48) := by
  obtain rfl | rfl | rfl | rfl | rfl | rfl | rfl | rfl | rfl | rfl : d = 48 ∨ d = 49 ∨ d = 50 ∨ d = 51 ∨ d = 52 ∨ d = 53 ∨ d = 54 ∨ d = 55 ∨ d = 56 ∨ d = 57 := by omega
  all_goals decide +kernel
/-- the texts' constants here -/
structure CstR (mg : Str → Option Value) : Prop where
  between : ∃ t, mg "BETWEEN_STEPS" = some (.str "; " t)
  without : ∃ t, mg "WITHOUT_STEPS" = some (.str "plain" t)
  digits : ∃ t, mg "DIGITS" = some (.str "0123456789" t)
def spNum : Sp := fun vs H Q _ => ∃ v : List Nat, vs = [.str (S v)] ∧ v.length ≤ 1000 ∧ Q (numV v) H
def unt (ws : List (List Nat)) : List (List Nat) := ws.map fun v => v.map untild
def spStepOf : Sp := fun vs H Q _ => ∃ x : List Nat, vs = [.str (S x)] ∧ x.length ≤ 1000 ∧ ∀ w ws p H', spl32 x = w :: ws → Ext H H' → H' p = some (.tup (V.str (S w) :: (unt ws).map (valV' w))) → Q (.ref p) H'
section
variable {P : Program} {w : World} {K : PySem.W.Frag} {mg : Str → Option Value} {base : Heap}
theorem ok_num {f : Addr} {fd : FuncData} (F : Fun K "_number_of" "_number_of" sNumberOf f fd) (T : Nms mg) (C : CstR mg) : FnOk P w K mg base CX0 1 f fd ["word"] spNum := by
  refine F.ok scNumberOf (fun vs H Q E h => ?_) (fun cdv A outer s H vs Q E hr h => ?_)
  · obtain ⟨v, rfl, _⟩ := h
    rfl
  · obtain ⟨v, rfl, hl, q⟩ := h
    have nd := scNumberOf.nd
    obtain ⟨td, hd⟩ := C.digits
    refine ⟨_, pss_one (ps_ret (pe_ifExp (PW.pt (pw_and (pt_cmpR op_eq (pe_callB call_len_str (by rfl) T.len PySem.boot_len (pa_cons (pv 0) pa_nil)) pe_int (nomark _)) (pw_and1 (pt_cmpR op_in_sign (pv 0) (pe_glob (v := .str _) rfl hd ⟨_, rfl⟩) rfl))))
      (pe_callTy call_int_str (by rfl) T.int (by decide +kernel) (pa_cons (pv 0) pa_nil)) (pv 0))), ?_⟩
    refine ⟨_, rfl, _, rfl, by rw [S_len, sizeLine_eq]; omega, rfl, _, rfl, ?_⟩
    rw [S_len]
    match v, hl, q with
    | [], _, q =>
      rw [decide_eq_false (show ¬ V.int ((([] : List Nat).length : Nat) : Int) = V.int 1 from fun z => by injection z with z; exact absurd z (by decide))]
      exact iteF ⟨_, rfl, q⟩
    | [d], _, q =>
      rw [decide_eq_true (show V.int ((([d] : List Nat).length : Nat) : Int) = V.int 1 from rfl)]
      refine iteT ⟨_, rfl, d, _, rfl, rfl, _, rfl, ?_⟩
      rw [digits10]
      replace q : Q (if 48 ≤ d ∧ d ≤ 57 then .int ((d : Int) - 48) else .str (S [d])) H := q
      have e : decide (d ∈ (S [48, 49, 50, 51, 52, 53, 54, 55, 56, 57]).cps.toList) = decide (48 ≤ d ∧ d ≤ 57) := decide_eq_decide.mpr (by show d ∈ [48, 49, 50, 51, 52, 53, 54, 55, 56, 57] ↔ _; exact dig_mem)
      rw [e]
      by_cases h : 48 ≤ d ∧ d ≤ 57
      · rw [if_pos h] at q
        rw [decide_eq_true h]
        exact iteT ⟨_, rfl, S [d], _, rfl, int_dig h, (by rw [S_len]; show 1 ≤ 640; decide), q⟩
      · rw [if_neg h] at q
        rw [decide_eq_false h]
        exact iteF ⟨_, rfl, q⟩
    | a :: b :: r, _, q =>
      rw [decide_eq_false (show ¬ V.int (((a :: b :: r).length : Nat) : Int) = V.int 1 from fun z => by injection z with z; rw [List.length_cons, List.length_cons] at z; omega)]
      exact iteF ⟨_, rfl, q⟩
theorem ok_stepOf {f : Addr} {fd : FuncData} (F : Fun K "_step_of" "_step_of" sStepOf f fd) (T : Nms mg) (N : Cl P w K mg base 1 "_number_of" spNum) : FnOk P w K mg base CX0 2 f fd ["part"] spStepOf := by
  refine fnOk_1 F scStepOf (by decide +kernel) (by decide) (fun vs H Q E h => ?_) (fun cdv A outer s H vs Q E hr h => ?_)
  · obtain ⟨x, rfl, _⟩ := h
    rfl
  · obtain ⟨x, rfl, hl, q⟩ := h
    have nd := scStepOf.nd
    refine ⟨_, pssn_cut (psn_set (i := 1) nd rfl (Or.inl rfl) (pen (pe_split (pv 0) pe_str)))
      (pssn_cut (psn_setLc (i := 2) (own := [("word", 3)]) (g := gName 3) (tt := tYes) rfl nd rfl rfl (sw_true rfl rfl rfl (by decide +kernel)) (pi_list (pe_slice sl_list (pv 1) (po_some pe_int) po_none)) (blkOk_by (N := ["part", "words", "values", "word", "value"]) (sc := defScope sStepOf) (by decide +kernel)) (fun _ _ _ _ _ => pg_name (i := 3) nd rfl (Or.inl rfl)) (fun _ _ _ _ _ => pts_nil)
        (fun _ _ _ _ _ => pen_replC (Nat.le_refl 1) (pv 3)))
      (pssn_cut (psn_if (ptn (pt_cmpR op_eq (pe_ix ix_list (pv 1) pe_int (fun _ _ => rfl)) pe_str (nomark _))) (pssn_one (psn (ps_setLc (i := 2) (own := [("value", 4)]) (g := gName 4) (tt := tYes) rfl nd rfl rfl (sw_true rfl rfl rfl (by decide +kernel)) (pi_list (pv 2)) (blkOk_by (N := ["part", "words", "values", "word", "value"]) (sc := defScope sStepOf) (by decide +kernel)) (fun _ _ _ _ _ => pg_name (i := 4) nd rfl (Or.inl rfl)) (fun _ _ _ _ _ => pts_nil)
        (fun _ _ _ _ _ => pe_cl N hr (by decide) rfl (pa_cons (pv 4) pa_nil))))) (pssn pss_nil))
      (pssn_one (psn_ret (pen (pe_callTy call_tuple_of (by rfl) T.tuple (by decide +kernel) (pa_cons (pe_op op_cat (pe_lst (pa_cons (pe_ix ix_list (pv 1) pe_int (fun _ _ => rfl)) pa_nil)) (pv 2)) pa_nil))))))), ?_⟩
    obtain ⟨wl, wn⟩ := w_len (x := x)
    obtain ⟨w0, ws, ew⟩ : ∃ w ws, spl32 x = w :: ws := by
      cases h : spl32 x with
      | nil => exact absurd h (spl_acc x [])
      | cons w ws => exact ⟨w, ws, rfl⟩
    rw [ew] at wl wn
    have wsl : ∀ v ∈ ws, v.length ≤ 1000 := fun v hv => Nat.le_trans (wl v (List.mem_cons_of_mem _ hv)) hl
    rw [List.length_cons] at wn
    refine ⟨fun σ' H' => ∃ a, σ' = [some (.str (S x)), some (.ref a), none, none, none] ∧ H' a = some (.lst (((w0 :: ws).map S).map V.str)) ∧ Ext H H', ?_, ?_⟩
    · refine ⟨_, rfl, ⟨_, rfl⟩, _, _, rfl, rfl, by decide +kernel, by rw [S_len, sizeLine_eq]; omega, fun p hp => ⟨p, rfl, ?_, Ext.refl.new hp⟩⟩
      rw [splS32, ew]; exact upd_same
    rintro σ1 H1 ⟨a, rfl, ha, k1⟩
    refine ⟨fun σ' H' => ∃ b u3, σ' = [some (.str (S x)), some (.ref a), some (.ref b), u3, none] ∧ H' b = some (.lst (((unt ws).map S).map V.str)) ∧ Ext H1 H', ?_, ?_⟩
    · refine ⟨_, rfl, 1, rfl, tailL (SqL.of ha) fun p hp => ⟨p, rfl, ⟨_, SqL.of upd_same⟩, fun D hD => ?_⟩⟩
      have kp : Ext H1 (L2.upd H1 p (.lst (((w0 :: ws).map S).map V.str).tail)) := Ext.refl.new hp
      refine lc_it (walk_list (xs := (ws.map S).map V.str)) (fun i H' => H' D = some (.lst ((((unt ws).take i).map S).map V.str)) ∧ Ext (L2.upd H1 p (.lst (((w0 :: ws).map S).map V.str).tail)) H') ⟨upd_same, Ext.refl.new hD⟩ (fun i H' _ z => SqL.of (z.2 p _ upd_same)) ?_ ?_
      · rintro i y H2 H3 hi ⟨h2, k2⟩ ⟨rfl, hx⟩
        rw [List.getElem?_map, List.getElem?_map] at hx
        obtain ⟨z, hz, rfl⟩ := Option.map_eq_some_iff.mp hx
        obtain ⟨v, hv, rfl⟩ := Option.map_eq_some_iff.mp hz
        have hvl := wsl v (List.mem_of_getElem? hv)
        have hiw := (List.getElem?_eq_some_iff.mp hv).1
        refine ⟨rfl, _, rfl, S v, rfl, ?_, ?_⟩
        · have e : (" " : Str).length = 1 := by decide +kernel
          rw [S_len, e]; omega
        rw [untild_S]
        refine ⟨_, h2, ?_, ?_, fun c o e => ?_⟩
        · rw [List.length_map, List.length_map, List.length_take, sizeLine_eq]; omega
        · have : (unt ws)[i]? = some (v.map untild) := by unfold unt; rw [List.getElem?_map, hv]; rfl
          rw [upd_same, List.take_succ, this, List.map_append, List.map_append]; rfl
        · rw [upd_ne (ne_of_none e hD)]; exact k2 c o e
      · rintro H2 ⟨h2, k2⟩
        have : ((ws.map S).map V.str).length = (unt ws).length := by unfold unt; rw [List.length_map, List.length_map, List.length_map]
        rw [this, List.take_length] at h2
        exact ⟨D, _, rfl, h2, kp.trans k2⟩
    rintro σ2 H2 ⟨b, u3, rfl, hb, k2⟩
    have hun : ∀ v ∈ unt ws, v.length ≤ 1000 := fun v hv => by
      unfold unt at hv
      obtain ⟨u, hu, rfl⟩ := List.mem_map.mp hv
      rw [List.length_map]; exact wsl u hu
    have hunl : (unt ws).length ≤ 1000 := by unfold unt; rw [List.length_map]; omega
    refine ⟨fun σ' H' => ∃ b u3 u4, σ' = [some (.str (S x)), some (.ref a), some (.ref b), u3, u4] ∧ H' b = some (.lst ((unt ws).map (valV' w0))) ∧ Ext H2 H', ?_, ?_⟩
    · refine ⟨_, rfl, a, _, 0, _, rfl, rfl, SqL.of (k2 a _ ha), at0, rfl, _, rfl, ?_⟩
      rw [words_S.2.2.2.2.2, dec_S]
      by_cases hc : w0 = cutW
      · rw [decide_eq_true hc]
        refine iteT ⟨_, rfl, b, rfl, ⟨_, SqL.of hb⟩, fun D hD => ?_⟩
        refine lc_it (walk_list (xs := ((unt ws).map S).map V.str)) (fun i H' => H' D = some (.lst (((unt ws).take i).map (valV' w0))) ∧ Ext H2 H') ⟨upd_same, Ext.refl.new hD⟩ (fun i H' _ z => SqL.of (z.2 b _ hb)) ?_ ?_
        · rintro i y H3 H4 hi ⟨h3, k3⟩ ⟨rfl, hx⟩
          rw [List.getElem?_map, List.getElem?_map] at hx
          obtain ⟨z, hz, rfl⟩ := Option.map_eq_some_iff.mp hx
          obtain ⟨v, hv, rfl⟩ := Option.map_eq_some_iff.mp hz
          refine ⟨rfl, _, rfl, v, rfl, hun v (List.mem_of_getElem? hv), _, h3, ?_, ?_, fun c o e => ?_⟩
          · rw [List.length_map, List.length_take, sizeLine_eq]; omega
          · have e : valV' w0 v = numV v := by unfold valV'; rw [if_pos hc]
            rw [upd_same, List.take_succ, hv, List.map_append]
            show _ = some (HO.lst (_ ++ [valV' w0 v]))
            rw [e]
          · rw [upd_ne (ne_of_none e hD)]; exact k3 c o e
        · rintro H3 ⟨h3, k3⟩
          rw [List.length_map, List.length_map, List.take_length] at h3
          exact ⟨D, _, _, rfl, h3, k3⟩
      · rw [decide_eq_false hc]
        refine iteF ⟨b, _, _, rfl, ?_, .refl⟩
        have e : valV' w0 = fun v => V.str (S v) := funext fun v => by unfold valV'; rw [if_neg hc]
        rw [hb, e, List.map_map]; rfl
    rintro σ3 H3 ⟨b3, u3', u4', rfl, hb3, k3⟩
    refine ⟨_, rfl, a, _, 0, _, rfl, rfl, SqL.of (k3 a _ (k2 a _ ha)), at0, by show 1 ≤ sizeLine; decide, fun p1 hp1 => ?_⟩
    have kp1 : Ext H3 (L2.upd H3 p1 (.lst [V.str (S w0)])) := Ext.refl.new hp1
    refine ⟨_, rfl, p1, b3, _, _, rfl, rfl, upd_same, kp1 b3 _ hb3, ?_, fun p2 hp2 => ?_⟩
    · rw [List.length_map, sizeLine_eq]; show 1 + _ ≤ _; omega
    have kp2 : Ext (L2.upd H3 p1 (.lst [V.str (S w0)])) (L2.upd (L2.upd H3 p1 (.lst [V.str (S w0)])) p2 (.lst ([V.str (S w0)] ++ (unt ws).map (valV' w0)))) := Ext.refl.new hp2
    refine ⟨p2, _, rfl, .inl ⟨SqL.of upd_same, fun p3 hp3 => ?_⟩⟩
    exact q w0 ws p3 _ ew ((((k1.trans k2).trans k3).trans (kp1.trans kp2)).new' hp3) upd_same
end
end Pd

set_option maxHeartbeats 4000000
namespace Pd
open PySem PySem.Spec PyProof.Rows L2 SX
/-! ### steps whose tokens are not known -/
def StQ (H : Hp) (p : Addr) (st : Stp) : Prop := H p = some (.tup (stpVals st)) ∨ ∃ o, H p = some (.frz o (.tup (stpVals st)))
theorem StQ.seq {K : PySem.W.Frag} {H : Hp} {p : Addr} {st : Stp} (h : StQ H p st) : SqT K H p (stpVals st) := by
  rcases h with h | ⟨o, h⟩
  · exact SqT.of h
  · exact .inl (.inr ⟨o, h⟩)
theorem StQ.ty {K : PySem.W.Frag} {H : Hp} {p : Addr} {st : Stp} (h : StQ H p st) : TyX K H (.ref p) (.type "tuple") := by
  rcases h with h | ⟨o, h⟩
  · exact .base (.tup h)
  · exact .fTuple h
theorem StQ.same {H H' : Hp} {p : Addr} {st : Stp} (h : StQ H p st) (e : ∀ o, H p = Option.some o → H' p = Option.some o) : StQ H' p st := by
  rcases h with h | ⟨o, h⟩
  · exact .inl (e _ h)
  · exact .inr ⟨o, e _ h⟩
theorem StQ.ext {H H' : Hp} {p : Addr} {st : Stp} (h : StQ H p st) (k : Ext H H') : StQ H' p st := h.same fun o x => k p o x
theorem StQ.noIns {H : Hp} {p : Addr} {st : Stp} (h : StQ H p st) {C : Addr} {dx : Addr} {fs : List (Str × V)} (e : H p = Option.some (.ins C dx fs)) : False := by
  rcases h with h | ⟨o, h⟩
  · rw [h] at e; cases e
  · rw [h] at e; cases e
inductive AlQ (H : Hp) : List Addr → List Stp → Prop where
  | nil : AlQ H [] []
  | cons {p : Addr} {st : Stp} {ps : List Addr} {sts : List Stp} (h : StQ H p st) (ok : st.ok) (r : AlQ H ps sts) : AlQ H (p :: ps) (st :: sts)
theorem AlQ.same {H H' : Hp} : ∀ {ps : List Addr} {sts : List Stp}, AlQ H ps sts → (∀ p ∈ ps, ∀ o, H p = some o → H' p = some o) → AlQ H' ps sts
  | _, _, .nil, _ => .nil
  | _, _, .cons h ok r, k => .cons (h.same fun o x => k _ (List.mem_cons_self ..) o x) ok (r.same fun p hp => k p (List.mem_cons_of_mem _ hp))
theorem AlQ.len {H : Hp} : ∀ {ps : List Addr} {sts : List Stp}, AlQ H ps sts → ps.length = sts.length
  | _, _, .nil => rfl
  | _, _, .cons _ _ r => congrArg (· + 1) r.len
theorem AlQ.get {H : Hp} : ∀ {ps : List Addr} {sts : List Stp} {i : Nat} {p : Addr}, AlQ H ps sts → ps[i]? = some p → ∃ st, sts[i]? = some st ∧ StQ H p st ∧ st.ok
  | _, _, _, _, .nil, e => by simp at e
  | _, _, 0, _, .cons h ok r, e => by
    simp at e; subst e
    exact ⟨_, by simp, h, ok⟩
  | _, _, i + 1, _, .cons h ok r, e => by
    obtain ⟨st, e1, h1⟩ := r.get (i := i) (by simpa using e)
    exact ⟨st, by simpa using e1, h1⟩
theorem AlQ.mem {H : Hp} : ∀ {ps : List Addr} {sts : List Stp} {p : Addr}, AlQ H ps sts → p ∈ ps → ∃ st, StQ H p st
  | _, _, _, .nil, h => nomatch h
  | _, _, _, .cons h ok r, hp => by
    rcases List.mem_cons.mp hp with rfl | hp
    · exact ⟨_, h⟩
    · exact r.mem hp
theorem AlQ.ext {H H' : Hp} {ps : List Addr} {sts : List Stp} (h : AlQ H ps sts) (k : Ext H H') : AlQ H' ps sts := h.same fun p _ o x => k p o x
theorem AlQ.ok {H : Hp} : ∀ {ps : List Addr} {sts : List Stp}, AlQ H ps sts → ∀ st ∈ sts, st.ok
  | _, _, .nil, _, h => nomatch h
  | _, _, .cons _ ok r, st, h => by
    rcases List.mem_cons.mp h with rfl | h
    · exact ok
    · exact r.ok st h
theorem AlQ.snoc {H : Hp} {p : Addr} {st : Stp} (hp : StQ H p st) (ok : st.ok) : ∀ {ps : List Addr} {sts : List Stp}, AlQ H ps sts → AlQ H (ps ++ [p]) (sts ++ [st])
  | _, _, .nil => .cons hp ok .nil
  | _, _, .cons h o r => .cons h o (r.snoc hp ok)
def RowQ (K : PySem.W.Frag) (H : Hp) (r : Addr) (sts : List Stp) : Prop := ∃ ps : List Addr, SqT K H r (ps.map V.ref) ∧ AlQ H ps sts
theorem RowQ.ext {K : PySem.W.Frag} {H H' : Hp} {r : Addr} {sts : List Stp} (h : RowQ K H r sts) (k : Ext H H') : RowQ K H' r sts := by
  obtain ⟨ps, e, a⟩ := h
  exact ⟨ps, sqT_keep e (fun o x => k r o x), a.ext k⟩
def FolQ (K : PySem.W.Frag) (C : Addr) (H : Hp) (o r : Addr) (sts : List Stp) : Prop := (∃ dx, H o = some (.ins C dx [("_steps", .ref r)])) ∧ RowQ K H r sts ∧ sts.length ≤ 6
theorem FolQ.ext {K : PySem.W.Frag} {C : Addr} {H H' : Hp} {o r : Addr} {sts : List Stp} (h : FolQ K C H o r sts) (k : Ext H H') : FolQ K C H' o r sts := by
  obtain ⟨⟨dx, e⟩, a, l⟩ := h
  exact ⟨⟨dx, k o _ e⟩, a.ext k, l⟩
theorem sm_valsQ {K : PySem.W.Frag} {H : Hp} {p : Addr} {st : Stp} (h : StQ H p st) : Sm K H 1 (.ref p) (.ref p) := by
  refine .tup h.seq h.seq rfl (by cases st <;> simp [stpVals]) fun i x y e1 e2 => ?_
  rw [e1] at e2
  cases e2
  have key : ∀ v ∈ stpVals st, Sm K H 0 v v := by
    intro v hv
    cases st <;> simp [stpVals] at hv <;> (try rcases hv with rfl | rfl | rfl) <;> (try rcases hv with rfl | rfl) <;> (try subst hv) <;> first | exact .str _ | exact .int _
  exact key x (List.mem_of_getElem? e1)
theorem sm_rowQ {K : PySem.W.Frag} {H : Hp} {r : Addr} {sts : List Stp} (h : RowQ K H r sts) (h6 : sts.length ≤ 6) : Sm K H 2 (.ref r) (.ref r) := by
  obtain ⟨ps, hp, al⟩ := h
  refine .tup hp hp rfl (by rw [List.length_map, al.len]; omega) fun i x y e1 e2 => ?_
  rw [e1] at e2
  cases e2
  rw [List.getElem?_map] at e1
  obtain ⟨p, hp', rfl⟩ := Option.map_eq_some_iff.mp e1
  obtain ⟨st, _, hst, _⟩ := al.get hp'
  exact sm_valsQ hst
def spIsStepQ : Sp := fun vs H Q _ => ∃ (p : Addr) (st : Stp), vs = [.ref p] ∧ StQ H p st ∧ st.ok ∧ ∀ H', Ext H H' → Q (.bl true) H'
def spFInitQ (K : PySem.W.Frag) (C : Addr) : Sp := fun vs H Q _ => ∃ (o dx r : Addr) (sts : List Stp), vs = [.ref o, .ref r] ∧ H o = some (.ins C dx []) ∧ RowQ K H r sts ∧ sts.length ≤ 6 ∧
  ∀ H', FolQ K C H' o r sts → (∀ b u, b ≠ o → H b = some u → H' b = some u) → Q .non H'
theorem made_askQ {K : PySem.W.Frag} {C : Addr} {H : Hp} {r x dx : Addr} {sts : List Stp} {Q : VK} {E : XK} (hR : RowQ K H r sts) (h6 : sts.length ≤ 6) (hx : H x = none) (hdx : H dx = none) (ne : dx ≠ x) (q : ∀ H', FolQ K C H' x r sts → Ext H H' → Q .non H') :
    spFInitQ K C [.ref x, V.ref r] (upd (upd H dx (.own x)) x (.ins C dx [])) Q E := by
  have k : Ext H (upd (upd H dx (.own x)) x (.ins C dx [])) := fun b u e => by
    rw [upd_ne (ne_of_none e hx), upd_ne (ne_of_none e hdx)]; exact e
  exact ⟨x, dx, r, sts, rfl, upd_same, hR.ext k, h6, fun H' F k2 => q H' F fun b u e => k2 b u (ne_of_none e hx) (k b u e)⟩
/-- the class Folding: made by position, called by position -/
def spFStepsQ (K : PySem.W.Frag) (C : Addr) : Sp := fun vs H Q _ => ∃ (o r : Addr) (sts : List Stp), vs = [.ref o] ∧ FolQ K C H o r sts ∧ Q (.ref r) H
def spPartQ : Sp := fun vs H Q _ => ∃ (p : Addr) (st : Stp), vs = [.ref p] ∧ StQ H p st ∧ st.ok ∧ ∀ H', Ext H H' → Q (.str (S (partL st))) H'
section
variable {P : Program} {w : World} {K : PySem.W.Frag} {mg : Str → Option Value} {base : Heap}
theorem ok_isStepQ {f : Addr} {fd : FuncData} (F : Fun K "is_step" "is_step" sIsStep f fd) (T : Nms mg) (C : Cst mg) (G : Cl P w K mg base 1 "is_character" spIsChar) (G2 : Cl P w K mg base 2 "_is_choice" spIsChoice) (G3 : Cl P w K mg base 1 "is_integer" spIsInt) : FnOk P w K mg base CX0 3 f fd ["value"] spIsStepQ := by
  refine F.ok scIsStep (fun vs H Q E h => ?_) (fun cdv A outer s H vs Q E hr h => ?_)
  · obtain ⟨p, st, rfl, _⟩ := h
    rfl
  · obtain ⟨p, st, rfl, hst, hok, q⟩ := h
    have nd := scIsStep.nd
    obtain ⟨tc, hc⟩ := C.cut
    refine ⟨_, pss_cons (ps_if (PW.pt (pw_or (pt_not (pt_val (pe_callB call_isi (by rfl) T.isi (by decide +kernel) (pa_cons (pv 0) (pa_cons (pe_bltn (v := .ty "tuple") (by rfl) T.tuple (by decide +kernel) rfl) pa_nil)))))
        (pw_or (pt_cmpR op_eq (pe_callB call_len_seq (by rfl) T.len PySem.boot_len (pa_cons (pv 0) pa_nil)) pe_int (nomark _))
        (pw_or1 (pt_not (pt_val (pe_callB call_isi (by rfl) T.isi (by decide +kernel) (pa_cons (pe_ix ix_tup (pv 0) pe_int (fun _ _ => rfl)) (pa_cons (pe_bltn (v := .ty "str") (by rfl) T.str (by decide +kernel) rfl) pa_nil))))))))) (pss_one (ps_ret pe_bl)) pss_nil)
      (pss_cons (ps_set (i := 1) nd rfl (Or.inl rfl) (pe_ix ix_tup (pv 0) pe_int (fun _ _ => rfl)))
      (pss_cons (ps_if (pt_cmpR op_eq (pv 1) pe_str (nomark _)) (pss_one (ps_ret (pe_cmpR op_eq (pe_callB call_len_seq (by rfl) T.len PySem.boot_len (pa_cons (pv 0) pa_nil)) pe_int (nomark _)))) pss_nil)
      (pss_cons (ps_if (pt_cmpR op_eq (pv 1) pe_str (nomark _)) (pss_one (ps_ret (pe_and (pe_cmpR op_eq (pe_callB call_len_seq (by rfl) T.len PySem.boot_len (pa_cons (pv 0) pa_nil)) pe_int (nomark _))
        (pe_and (pe_cl G hr (by decide) rfl (pa_cons (pe_ix ix_tup (pv 0) pe_int (fun _ _ => rfl)) pa_nil)) (pe_one (pe_cl G hr (by decide) rfl (pa_cons (pe_ix ix_tup (pv 0) pe_int (fun _ _ => rfl)) pa_nil))))))) pss_nil)
      (pss_cons (ps_if (pt_cmpR op_ne (pe_callB call_len_seq (by rfl) T.len PySem.boot_len (pa_cons (pv 0) pa_nil)) pe_int (nomark _)) (pss_one (ps_ret pe_bl)) pss_nil)
      (pss_cons (ps_if (pt_cmpR op_eq (pv 1) pe_str (nomark _)) (pss_one (ps_ret (pe_cl G2 hr (by decide) rfl (pa_cons (pe_ix ix_tup (pv 0) pe_int (fun _ _ => rfl)) pa_nil)))) pss_nil)
      (pss_cons (ps_if (PW.pt (pw_or (pt_cmpR op_eq (pv 1) pe_str (nomark _)) (pw_or1 (pt_cmpR op_eq (pv 1) pe_str (nomark _))))) (pss_one (ps_ret (pe_cl G hr (by decide) rfl (pa_cons (pe_ix ix_tup (pv 0) pe_int (fun _ _ => rfl)) pa_nil)))) pss_nil)
      (pss_one (ps_ret (pe_and (pe_cmpR op_eq (pv 1) pe_str (nomark _)) (pe_and (pe_cl G3 hr (by decide) rfl (pa_cons (pe_ix ix_tup (pv 0) pe_int (fun _ _ => rfl)) pa_nil))
        (pe_one (pe_chain op_le op_le pe_int (pe_ix ix_tup (pv 0) pe_int (fun _ _ => rfl)) (pe_glob (v := .int 9) rfl hc ⟨_, rfl⟩))))))))))))), ?_⟩
    have hs : ∀ {K : PySem.W.Frag}, SqT K H p (stpVals st) := hst.seq
    have e0 : decide (V.int (((stpVals st).length : Nat) : Int) = V.int 0) = false := by cases st <;> rfl
    refine ⟨_, rfl, _, _, _, _, true, rfl, .ty "tuple", hst.ty, kit_ty (by decide +kernel), true, rfl, ?_⟩
    refine iteF ⟨_, rfl, p, _, rfl, .inr hs, rfl, _, rfl, ?_⟩
    rw [e0]
    refine iteF ⟨_, rfl, p, _, 0, _, rfl, rfl, hs, word_at st, _, _, _, _, true, rfl, .ty "str", .base (.str _), kit_ty (by decide +kernel), true, rfl, ?_⟩
    refine iteF ⟨_, rfl, p, _, 0, _, rfl, rfl, hs, word_at st, ?_⟩
    cases st with
    | low =>
      refine ⟨_, rfl, rfl, _, rfl, ite2 (fun _ => ?_) (fun h => absurd (decide_eq_true rfl) h)⟩
      exact ⟨_, rfl, p, _, rfl, .inr hs, rfl, q H .refl⟩
    | swap a b =>
      refine ⟨_, rfl, rfl, _, rfl, ite2 (fun h => absurd (show V.str "swap" = V.str "lower" from of_decide_eq_true h) (by decide +kernel)) (fun _ => ?_)⟩
      refine ⟨_, rfl, rfl, _, rfl, ite2 (fun _ => ?_) (fun h => absurd (decide_eq_true rfl) h)⟩
      refine ⟨_, rfl, p, _, rfl, .inr hs, rfl, true, rfl, iteT ⟨_, rfl, p, _, 1, .str (sg a), rfl, rfl, hs, rfl, [a], rfl, by simp, true, ?_, iteT ⟨_, rfl, p, _, 2, .str (sg b), rfl, rfl, hs, rfl, [b], rfl, by simp, ?_⟩⟩⟩
      · rw [isChr_one hok.1]
      · rw [isChr_one hok.2]; exact q H .refl
    | drop cs =>
      refine ⟨_, rfl, rfl, _, rfl, ite2 (fun h => absurd (show V.str "drop" = V.str "lower" from of_decide_eq_true h) (by decide +kernel)) (fun _ => ?_)⟩
      refine ⟨_, rfl, rfl, _, rfl, ite2 (fun h => absurd (show V.str "drop" = V.str "swap" from of_decide_eq_true h) (by decide +kernel)) (fun _ => ?_)⟩
      refine ⟨_, rfl, p, _, rfl, .inr hs, rfl, _, rfl, iteF ?_⟩
      refine ⟨_, rfl, rfl, _, rfl, ite2 (fun _ => ?_) (fun h => absurd (decide_eq_true rfl) h)⟩
      exact ⟨_, rfl, p, _, 1, .str (S cs), rfl, rfl, hs, rfl, cs, rfl, hok, q⟩
    | lead a =>
      refine ⟨_, rfl, rfl, _, rfl, ite2 (fun h => absurd (show V.str "lead" = V.str "lower" from of_decide_eq_true h) (by decide +kernel)) (fun _ => ?_)⟩
      refine ⟨_, rfl, rfl, _, rfl, ite2 (fun h => absurd (show V.str "lead" = V.str "swap" from of_decide_eq_true h) (by decide +kernel)) (fun _ => ?_)⟩
      refine ⟨_, rfl, p, _, rfl, .inr hs, rfl, _, rfl, iteF ?_⟩
      refine ⟨_, rfl, rfl, _, rfl, ite2 (fun h => absurd (show V.str "lead" = V.str "drop" from of_decide_eq_true h) (by decide +kernel)) (fun _ => ?_)⟩
      refine ⟨_, rfl, rfl, _, rfl, iteT ?_⟩
      refine ⟨_, rfl, p, _, 1, .str (sg a), rfl, rfl, hs, rfl, [a], rfl, by simp, ?_⟩
      rw [isChr_one hok]; exact q H .refl
    | once a =>
      refine ⟨_, rfl, rfl, _, rfl, ite2 (fun h => absurd (show V.str "once" = V.str "lower" from of_decide_eq_true h) (by decide +kernel)) (fun _ => ?_)⟩
      refine ⟨_, rfl, rfl, _, rfl, ite2 (fun h => absurd (show V.str "once" = V.str "swap" from of_decide_eq_true h) (by decide +kernel)) (fun _ => ?_)⟩
      refine ⟨_, rfl, p, _, rfl, .inr hs, rfl, _, rfl, iteF ?_⟩
      refine ⟨_, rfl, rfl, _, rfl, ite2 (fun h => absurd (show V.str "once" = V.str "drop" from of_decide_eq_true h) (by decide +kernel)) (fun _ => ?_)⟩
      refine ⟨_, rfl, rfl, _, rfl, ite2 (fun h => absurd (show V.str "once" = V.str "lead" from of_decide_eq_true h) (by decide +kernel)) (fun _ => ?_)⟩
      refine ⟨_, rfl, rfl, _, rfl, iteT ?_⟩
      refine ⟨_, rfl, p, _, 1, .str (sg a), rfl, rfl, hs, rfl, [a], rfl, by simp, ?_⟩
      rw [isChr_one hok]; exact q H .refl
    | cut n =>
      refine ⟨_, rfl, rfl, _, rfl, ite2 (fun h => absurd (show V.str "cut" = V.str "lower" from of_decide_eq_true h) (by decide +kernel)) (fun _ => ?_)⟩
      refine ⟨_, rfl, rfl, _, rfl, ite2 (fun h => absurd (show V.str "cut" = V.str "swap" from of_decide_eq_true h) (by decide +kernel)) (fun _ => ?_)⟩
      refine ⟨_, rfl, p, _, rfl, .inr hs, rfl, _, rfl, iteF ?_⟩
      refine ⟨_, rfl, rfl, _, rfl, ite2 (fun h => absurd (show V.str "cut" = V.str "drop" from of_decide_eq_true h) (by decide +kernel)) (fun _ => ?_)⟩
      refine ⟨_, rfl, rfl, _, rfl, ite2 (fun h => absurd (show V.str "cut" = V.str "lead" from of_decide_eq_true h) (by decide +kernel)) (fun _ => ?_)⟩
      refine ⟨_, rfl, rfl, _, rfl, ite2 (fun h => absurd (show V.str "cut" = V.str "once" from of_decide_eq_true h) (by decide +kernel)) (fun _ => ?_)⟩
      refine ⟨_, rfl, rfl, true, rfl, iteT ⟨_, rfl, p, _, 1, .int (n : Nat), rfl, rfl, hs, rfl, _, rfl, true, rfl, iteT ?_⟩⟩
      have e1 : decide ((1 : Int) ≤ (n : Nat)) = true := decide_eq_true (by have := hok.1; omega)
      have e2 : decide (((n : Nat) : Int) ≤ 9) = true := decide_eq_true (by have := hok.2; omega)
      refine ⟨_, rfl, p, _, 1, .int (n : Nat), rfl, rfl, hs, rfl, _, _, rfl, rfl, true, ?_, iteT ⟨_, _, rfl, rfl, ?_⟩⟩
      · exact congrArg V.bl e1
      · show Q (V.bl (decide (((n : Nat) : Int) ≤ 9))) H
        rw [e2]; exact q H .refl
theorem ok_finitQ {f Cf : Addr} {fd : FuncData} {dvs : List V} (F : FunD K "__init__" "Folding.__init__" (defArgs sFoldingInit) (defBody sFoldingInit) (defScope sFoldingInit) dvs [] f fd) (T : Nms mg) (C : Cst mg) (Z : Fcl K mg Cf) (G : Cl P w K mg base 3 "is_step" spIsStepQ) :
    FnOk P w K mg base CX0 4 f fd ["self", "steps"] (spFInitQ K Cf) := by
  refine F.ok scFoldingInit (fun vs H Q E h => ?_) (fun cdv A outer s H vs Q E hr h => ?_)
  · obtain ⟨o, dx, r, sts, rfl, _⟩ := h
    rfl
  · obtain ⟨o, dx, r, sts, rfl, ho, ⟨ps, hr0, al⟩, h6, q⟩ := h
    have nd := scFoldingInit.nd
    obtain ⟨t6, hm⟩ := C.steps
    refine ⟨_, PSs.nox (pss_cons (ps_if (pt_not (pt_val (pe_callB call_isi (by rfl) T.isi (by decide +kernel) (pa_cons (pv 1) (pa_cons (pe_bltn (v := .ty "tuple") (by rfl) T.tuple (by decide +kernel) rfl) pa_nil))))) pss_never pss_nil)
      (pss_cons (ps_for PassesOwn.never rfl (pi_enumT (by rfl) T.enum (pa_cons (pv 1) pa_nil)) (pg_tup (by rfl) (pgs_cons (pg_name (i := 2) nd rfl (Or.inl rfl)) (pgs_cons (pg_name (i := 3) nd rfl (Or.inl rfl)) pgs_nil)))
        (pss_one (ps_if (PW.pt (pw_or (pt_cmpR op_ge (pv 2) (pe_glob (v := .int 6) rfl hm ⟨_, rfl⟩) (nomark _)) (pw_or1 (pt_not (pt_val (pe_cl G hr (by decide) rfl (pa_cons (pv 3) pa_nil))))))) pss_never pss_nil)))
      (pss_one (ps_fld (pv 0) (pv 1) rfl)))), ?_⟩
    refine ⟨_, rfl, _, _, _, _, true, rfl, .ty "tuple", sqT_ty hr0, kit_ty (by decide +kernel), true, rfl, iteF ?_⟩
    refine ⟨_, rfl, r, _, rfl, hr0, for_it (walk_enumT (xs := ps.map V.ref)) (fun i σ H' => ∃ u v, σ = [some (.ref o), some (.ref r), u, v] ∧ Ext H H') ⟨none, none, rfl, .refl⟩ (fun i σ H' _ p => by
      obtain ⟨u, v, _, k⟩ := p
      exact sqT_keep hr0 (fun o x => k r o x)) ?_ ?_⟩
    · rintro i x σ H2 H3 hi ⟨u, v, rfl, k2⟩ ⟨Ta, x1, y1, rfl, hT, rfl, e1, e2⟩
      obtain rfl := Option.some.inj e1
      rw [List.length_map] at hi
      replace e2 : (ps.map V.ref)[i]? = some y1 := e2
      rw [List.getElem?_map] at e2
      obtain ⟨p, hp, rfl⟩ := Option.map_eq_some_iff.mp e2
      obtain ⟨st, es, hst, ok⟩ := al.get hp
      have k3 : Ext H (L2.upd H2 Ta (.tup [V.int (i : Nat), V.ref p])) := fun b ob hb => by
        rw [upd_ne (ne_of_none (k2 b ob hb) hT)]; exact k2 b ob hb
      have i6 : i < 6 := by have := al.len; omega
      refine ⟨Ta, _, rfl, SqT.of upd_same, rfl, _, _, rfl, _, _, rfl, rfl, ?_⟩
      refine ⟨_, rfl, _, _, rfl, rfl, _, rfl, ?_⟩
      rw [decide_eq_false (show ¬ ((i : Nat) : Int) ≥ 6 by omega)]
      refine iteF ⟨_, rfl, p, st, rfl, hst.ext k3, ok, fun H4 k4 => ⟨true, rfl, iteF ⟨some (.int (i : Nat)), some (.ref p), rfl, k3.trans k4⟩⟩⟩
    · rintro σ H2 ⟨u, v, rfl, k2⟩
      refine ⟨_, rfl, _, rfl, o, Cf, dx, [], rfl, k2 o _ ho, Z.cl, Z.nS, (by show 0 < 1000; decide), ?_⟩
      have no : ∀ b u, b ≠ o → H b = some u → (L2.upd H2 o (.ins Cf dx (putF "_steps" (V.ref r) []))) b = some u := fun b u n e => by rw [upd_ne n]; exact k2 b u e
      refine q (L2.upd H2 o (.ins Cf dx (putF "_steps" (V.ref r) []))) ⟨⟨dx, upd_same⟩, ⟨ps, sqT_noIns hr0 ho no, al.same fun p hp ob e => no p ob ?_ e⟩, h6⟩ no
      rintro rfl
      obtain ⟨st, hst⟩ := al.mem hp
      exact hst.noIns ho
theorem ok_fstepsQ {f Cf : Addr} {fd : FuncData} (F : Fun K "steps" "Folding.steps" sFoldingSteps f fd) (Z : Fcl K mg Cf) : FnOk P w K mg base CX0 1 f fd ["self"] (spFStepsQ K Cf) := by
  refine F.ok scFoldingSteps (fun vs H Q E h => ?_) (fun cdv A outer s H vs Q E hr h => ?_)
  · obtain ⟨o, r, sts, rfl, _⟩ := h
    rfl
  · obtain ⟨o, r, sts, rfl, ⟨⟨dx, e⟩, _, _⟩, q⟩ := h
    exact ⟨_, pss_one (ps_ret (pe_fld (pv 0) rfl)), _, rfl, o, Cf, dx, _, _, rfl, e, Z.cl, Z.nS, rfl, q⟩
theorem ok_lpartQ {f : Addr} {fd : FuncData} (F : Fun K "_law_part" "_law_part" sLawPart f fd) (T : Nms mg) : FnOk P w K mg base CX0 1 f fd ["step"] spPartQ := by
  refine fnOk_1 F scLawPart (by decide +kernel) (by decide) (fun vs H Q E h => ?_) (fun cdv A outer s H vs Q E hr h => ?_)
  · obtain ⟨p, st, rfl, _⟩ := h
    rfl
  · obtain ⟨p, st, rfl, hst, hok, q⟩ := h
    have nd := scLawPart.nd
    refine ⟨_, pssn_one (psn_ret (pen_m1 PySem.F.slot_str_join PySem.F.type_str_join mt_join (pen pe_str)
      (pen_lc (own := [("entry", 1)]) (g := gName 1) (tt := tYes) rfl nd (pi_tup (pv 0)) (blkOk_by (N := ["step", "entry"]) (sc := defScope sLawPart) (by decide +kernel)) (fun _ _ _ _ _ => pg_name (i := 1) nd rfl (Or.inl rfl)) (fun _ _ _ _ _ => pts_nil)
        (fun _ _ _ _ _ => pen_replC (Nat.le_refl 1) (pe_callTy (callR_or call_str_int SkE.call_str_str) (by rfl) T.str (by decide +kernel) (pa_cons (pv 1) pa_nil)))))), ?_⟩
    refine ⟨⟨_, rfl⟩, _, rfl, p, rfl, ⟨_, hst.seq⟩, fun D hD => ?_⟩
    refine lc_it (walk_tup (xs := stpVals st)) (fun i H' => H' D = some (.lst ((((wordL st :: argL st).take i).map S).map V.str)) ∧ Ext H H') ⟨upd_same, Ext.refl.new hD⟩ (fun i H' _ z => (hst.ext z.2).seq) ?_ ?_
    · rintro i x H2 H3 hi ⟨h2, k2⟩ ⟨rfl, hx⟩
      obtain ⟨y, hy, hw⟩ := word_get hok hx
      have fin : ∃ acc, H3 D = some (.lst acc) ∧ acc.length < sizeLine ∧ (L2.upd H3 D (.lst (acc ++ [V.str (S y)]))) D = some (.lst ((((wordL st :: argL st).take (i + 1)).map S).map V.str)) ∧ Ext H (L2.upd H3 D (.lst (acc ++ [V.str (S y)]))) := by
        refine ⟨_, h2, ?_, ?_, k2.new hD⟩
        · rw [List.length_map, List.length_map, sizeLine_eq]
          have h1 := List.length_take_le' i (wordL st :: argL st)
          have h3 := arg_few st
          rw [List.length_cons] at h1
          omega
        · rw [upd_same, List.take_succ, hy, List.map_append, List.map_append]
          rfl
      have e1 : ("~" : Str).length = 1 := by decide +kernel
      rcases hw with ⟨l, rfl, hl, rfl⟩ | ⟨n, h1, h9, rfl, rfl⟩
      · refine ⟨rfl, _, rfl, .inr ⟨_, rfl, S l, rfl, ?_, ?_⟩⟩
        · rw [S_len, e1]; omega
        · rw [tild_S]; exact fin
      · refine ⟨rfl, _, rfl, .inl ⟨_, rfl, ?_, S [48 + n], ?_, ?_, ?_⟩⟩
        · have : ((n : Nat) : Int).natAbs = n := by omega
          rw [this]
          exact Nat.lt_of_le_of_lt (Nat.log2_le_self n) (by omega)
        · rw [digit_S n h1 h9]
        · rw [S_len, e1]; simp
        · rw [tild_S]
          have e2 : ([48 + n] : List Nat).map tild = [48 + n] := by
            show [swapC 32 126 (48 + n)] = _
            unfold swapC
            rw [if_neg (by omega)]
          rw [e2]
          exact fin
    · rintro H2 ⟨h2, k2⟩
      have e2 : (stpVals st).length = (wordL st :: argL st).length := by
        rw [List.length_cons, arg_len]
        cases st <;> rfl
      rw [e2, List.take_length] at h2
      refine ⟨_, D, (wordL st :: argL st).map S, rfl, rfl, .inl (SqL.of h2), ?_, ?_⟩
      · rw [sum_S, List.length_map, List.map_cons, List.sum_cons, List.length_cons]
        have h1 := sum_le (m := 10) (arg_lens hok)
        have h3 := word_len st
        have h4 := arg_few st
        have e : (" " : Str).length = 1 := by decide +kernel
        rw [e]
        omega
      · rw [space_S, join_S]
        exact q _ k2
end
end Pd

set_option maxHeartbeats 4000000
/-! ### an own error made by keywords alone -/
namespace PySem
namespace HandSPX
open Builtin Builtin.ObjectAttr
section
variable {A : Around} {h : Heap} {g : Array GenState} {d : Drawn} {t : Nat} {os : OsState} {nm q : Str} {C N : Addr} {bs bm bmB : List Value} {hdct : Bool} {sn : List Str} {sub : List Value} {ab : Bool} {col : Option Bool} {dd : Option Addr} {k0 k1 k2 k3 k5 : Option Value} {B newId initId : String} {kws : List (Str × Value)}
theorem kw_newcheck {M : Model} {E : Value → Shared → Prop} {Q : Unit → Shared → Prop} (F : ExcBaseFacts B newId initId bmB) (hT : ∀ X : String, bm.contains (.type X) = bmB.contains (.type X)) (hC : h.get? C = some (excClassObj nm q C N bs bm hdct sn sub ab col dd k0 k1 k2 k3 k5 newId)) (hq : Q () ⟨h, g, d, t, os⟩) :
    wpAny M A (checkBuiltinCall newId ⟨[.ref C], kws⟩) Q E ⟨h, g, d, t, os⟩ := by
  have hB : (Value.ref C :: bm).contains (.type B) = true := by rw [List.contains_cons, hT, F.hasB, Bool.or_true]
  have hS := F.noStar
  simp only [checkBuiltinCall, F.newKind, F.newSplit, F.newRow]
  repeat (first | refine wpAny_madeBy_exc hC ?_ | refine wpAny_staticBase_exc hC ?_ | (refine wpAny_isSubtype_exc hC ?_; rw [hB]) | refine wpAny_loadPart_at hC ?_ | simp only [bne_self_eq_false, Bool.false_eq_true, if_false] | wp_step)
  all_goals exact hq
end
section
variable {prog : Program} {w : World} {A : Around} {R : Result → Shared → Prop} {h : Heap} {g : Array GenState} {d : Drawn} {t : Nat} {os : OsState} {nm q : Str} {C N : Addr} {bs bm bmB : List Value} {hdct : Bool} {sn : List Str} {sub : List Value} {ab : Bool} {col : Option Bool} {dd : Option Addr} {k0 k1 k2 k3 k5 : Option Value} {B newId initId : String} {kws : List (Str × Value)}
/-- the new error: its tuple of no arguments before it -/
abbrev kwHp (h : Heap) (C : Addr) : Heap := (h.push (W.kdv_tup [])).push (excO C h.objs.size)
theorem kw_new (F : ExcBaseFacts B newId initId bmB) (hT : ∀ X : String, bm.contains (.type X) = bmB.contains (.type X)) (hC : h.get? C = some (excClassObj nm q C N bs bm hdct sn sub ab col dd k0 k1 k2 k3 k5 newId))
    (hq : R (.ok (.ret (.ref (h.objs.size + 1)))) ⟨kwHp h C, g, d, t, os⟩) : codeAny (model prog w) A (.builtin newId ⟨[.ref C], kws⟩) R ⟨h, g, d, t, os⟩ := by
  have e0 := F.ends
  have hB : (Value.ref C :: bm).contains (.type B) = true := by rw [List.contains_cons, hT, F.hasB, Bool.or_true]
  have h1 : (Value.ref C :: bm).contains (.type "AttributeError") = false := by rw [List.contains_cons, hT, F.noAttr]; rfl
  have h2 : (Value.ref C :: bm).contains (.type "NameError") = false := by rw [List.contains_cons, hT, F.noName]; rfl
  refine codeAny_builtinAt F.entry ?_
  unfold Builtin.«BaseException.__new__»
  refine wpAt_bind (show wpAt _ _ _ (stack >>= _) _ _ _ from wpAt_bind (wpAt_stack fun p below => wpAt_of_wpAny ?_))
  wp_walk
  refine wpAt_of_wpAny ?_
  rw [F.owner]
  repeat (first | (with_reducible refine wpAny_isSubtype_exc hC ?_; first | rw [hB] | rw [h1] | rw [h2]) | with_reducible refine wpAny_loadPart_at hC ?_ | with_reducible refine wpAny_madeHere_exc F.canon hC ?_ | wp_step)
  show R _ _
  rw [Heap.size_push]
  exact hq
theorem kw_typecall {Q : Fin → Shared → Prop} {E : Value → Shared → Prop} {fI : Addr} (F : ExcBaseFacts B newId initId bmB) (hT : ∀ X : String, bm.contains (.type X) = bmB.contains (.type X)) (hC : h.get? C = some (excClassObj nm q C N bs bm hdct sn sub ab col dd k0 k1 k2 k3 k5 newId))
    (hi : W.Looks (model prog w) h (typeLookup (.ref C) "__init__") (some (.ref fI))) (hb : ∀ self, W.Looks (model prog w) h (bindSpecial (.ref fI) self) (.ref fI, [self]))
    (hq : codeAny (model prog w) A (.call (.ref fI) ⟨[.ref (h.objs.size + 1)], kws⟩) (fun r s' => match r with | .error e => E e s' | .ok (.ret v) => v = .none ∧ Q (.done (.ret (.ref (h.objs.size + 1)))) s' | .ok _ => False) ⟨kwHp h C, g, d, t, os⟩) :
    wpAny (model prog w) A (Builtin.«type.__call__» ⟨[.ref C], kws⟩) Q E ⟨h, g, d, t, os⟩ := by
  have k : ∀ b o, h.get? b = some o → (kwHp h C).get? b = some o := fun b o e => Heap.get?_push_of_some _ (Heap.get?_push_of_some _ e)
  have hN : (kwHp h C).get? (h.objs.size + 1) = some (excO C h.objs.size) := by heap_get
  have hCC : (Value.ref C :: bm).contains (.ref C) = true := by simp
  repeat (first | with_reducible refine wpAny_madeBy_exc hC ?_ | with_reducible refine wpAny_loadPart_at hC ?_ | wp_step)
  refine codeAny_call_builtin_code (Code.quiet_builtin _ F.quiet) (kw_newcheck F hT hC (kw_new F hT hC ?_))
  show wpAny _ _ _ _ _ _
  unfold isInstance
  repeat (first | with_reducible refine wpAny_loadPart_at hN ?_ | (with_reducible refine wpAny_isSubtype_exc (k _ _ hC) ?_; rw [hCC]) | wp_step)
  show wpAny _ _ (typeLookup (.ref C) _) _ _ _
  refine (hi.keeps k).at (wpAny_holding (wpAny_bind (((hb (.ref (h.objs.size + 1))).keeps k).at ?_)))
  refine wpAny_bind (wpAny_call (codeAny_mono hq fun r s' z => ?_))
  rcases r with e | (_ | _ | _ | v) <;> first | exact z | exact z.elim | skip
  obtain ⟨rfl, z⟩ := z
  first
    | exact wpAny_pure (wpAny_pure z)
    | (wp_walk; exact z)
theorem kw_tccheck {M : Model} {Q : Unit → Shared → Prop} {E : Value → Shared → Prop} (hC : h.get? C = some (excClassObj nm q C N bs bm hdct sn sub ab col dd k0 k1 k2 k3 k5 newId)) (hq : Q () ⟨h, g, d, t, os⟩) : wpAny M A (checkBuiltinCall "type.__call__" ⟨[.ref C], kws⟩) Q E ⟨h, g, d, t, os⟩ := by
  have hY : (⟨h, g, d, t, os⟩ : Shared).TypeIs (.ref C) "type" := ⟨_, hC, rfl⟩
  have z := tc_sub
  simp only [checkBuiltinCall, tc_kind, tc_split]
  repeat (any_goals (first | assumption | with_reducible refine wpAny_map ?_ | with_reducible refine wpAny_onRaise ?_ | with_reducible refine wpAny_loadPart_at hC ?_ | wp_step))
theorem kw_own {fI : Addr} (F : ExcBaseFacts B newId initId bmB) (hT : ∀ X : String, bm.contains (.type X) = bmB.contains (.type X)) (hC : h.get? C = some (excClassObj nm q C N bs bm hdct sn sub ab col dd k0 k1 k2 k3 k5 newId))
    (hi : W.Looks (model prog w) h (typeLookup (.ref C) "__init__") (some (.ref fI))) (hb : ∀ self, W.Looks (model prog w) h (bindSpecial (.ref fI) self) (.ref fI, [self]))
    (hq : codeAny (model prog w) (A.under (.builtin "type.__call__" ⟨[.ref C], kws⟩)) (.call (.ref fI) ⟨[.ref (h.objs.size + 1)], kws⟩) (W.InitBack (h.objs.size + 1) R) ⟨kwHp h C, g, d, t, os⟩) : codeAny (model prog w) A (.call (.ref C) ⟨[], kws⟩) R ⟨h, g, d, t, os⟩ := by
  have f1 := tc_lookup
  have f2 := tc_bind (.ref C)
  have hY : (⟨h, g, d, t, os⟩ : Shared).TypeIs (.ref C) "type" := ⟨_, hC, rfl⟩
  refine codeAny_of_tree (show wpAny _ _ (callAny (.ref C) _) _ _ _ from ?_)
  repeat (any_goals (first | assumption | with_reducible refine wpAny_loadPart_at hC ?_ | wp_step))
  refine ⟨rfl, codeAny_call_builtin_at (Code.quiet_builtin _ (by decide +kernel)) entry_typeCall (kw_tccheck hC (kw_typecall F hT hC hi hb (codeAny_mono hq fun r s' z => ?_)))⟩
  rcases r with e | (_ | _ | _ | v) <;> exact z
end
end HandSPX
end PySem

set_option maxHeartbeats 4000000
namespace Pd
open PySem PySem.Spec PyProof.Rows L2
/-! ### own errors as values -/
/-- C(e, ..), or C(k = v, ..), C's own __init__ keeping sp: a new error that is kept -/
def rMkV (C : Addr) (sp : Sp) (gs : List V) (H1 : Hp) (Q : VK) : Prop := ∀ a, H1 a = none → sp (.ref a :: gs) (upd H1 a (exo a C none)) (fun v H2 => v = .non ∧ Q (.ref a) H2) fun _ _ _ => False
def tMkV (C : Addr) (sp : Sp) (t : TA) : TE := fun σ H Q => t σ H fun vs H1 => vs.length ≤ 1000 ∧ rMkV C sp vs H1 Q
def tMkVK (C : Addr) (sp : Sp) (m : Nat) (tk : TA) : TE := fun σ H Q => tk σ H fun zs H1 => zs.length = m ∧ rMkV C sp zs H1 Q
section
variable {X : Cx} {CX : CXT} {x : Str} {C fI : Addr} {k : Nat} {fd : FuncData} {ps ks : List Str} {sp : Sp} {e : Expr} {es : List Expr} {ta tk : TA} {p pos : Pos} {kws : List Keyword}
theorem pe_mkV (T : OexC X.K C) (iC : PySem.W.findIn X.K (.ref C) "__init__" = some (some (.ref fI))) (tI : PySem.W.typeIn X.K (.ref fI) = some (.type "function")) (F : FnOk X.prog X.w X.K X.mg X.base CX k fI fd ps sp) (hr : Room (k + 1) X.A) (hb : Binds X.K fd ps []) (hx : Passes CX X fun _ _ _ => False)
    (hg : Gl X x) (hm : X.mg x = some (.ref C)) (ha : PA X (e :: es) ta) (hdb : (x == ("__debug__" : Str)) = false := by decide) (he : starEach (e :: es) X.env = (false, eval e X.env) :: starEach es X.env := by rfl) (hpl : (backTo pos (starEach es X.env)).any (·.1) = false := by rfl) :
    PE X (.Call (.Name x p) (e :: es) [] pos) (tMkV C sp ta) := by
  refine ⟨fun pins s σ H Q I h => wpAny_Call_Name_kw (ld_glob I hg hm ?_ hdb)⟩
  refine PySem.W.callWith_K (h₀ := X.base) I.ok.mod.kin T.kC (thn (ha.run pos pins s σ H _ I h) fun us s1 ⟨vs, H1, I1, r1, hz, q1⟩ => ⟨I1.kIn, show wpAny _ _ (call (.ref C) us) _ _ _ from ?_⟩) he hpl
  obtain ⟨nm, q, N, bs, bm, sn, sub, ab, col, dd, k0, k1, k2, k3, k5, hC, hbm⟩ := T.cls
  obtain ⟨hp, g, dr, tk, os⟩ := s1
  have z1 : hp.objs.size ≤ hp.objs.size + 1 := Nat.le_succ _
  have z2 : us.length ≤ sizeLine := by rw [← Paired.length r1, sizeLine_eq]; omega
  have hq := q1 (hp.objs.size + 1) (I1.hok.fresh z1)
  have J := I1.laid (t' := tk) (a := hp.objs.size + 1) (o := exo (hp.objs.size + 1) C none) (h' := (hp.push (PySem.W.kdv_tup us)).push (PySem.HandSPX.excO C hp.objs.size)) (fun b o z => Heap.get?_push_of_some _ (Heap.get?_push_of_some _ z)) z1 (exo_ok (by heap_get))
  have rr : Vals (V.ref (hp.objs.size + 1) :: vs) (Value.ref (hp.objs.size + 1) :: us) := .cons rfl r1
  have hl : (Value.ref (hp.objs.size + 1) :: us).length = ps.length := by rw [← rr.length]; exact (F.len _ _ _ _ hq)
  have bd := hb _ (Value.ref (hp.objs.size + 1) :: us) J.kIn (by simpa using hl)
  refine wpAny_call (PySem.HandSPX.call_own PySem.F.excBase_ValueError (fun Y => PySem.HandSPX.refsVE_contains Y bm hbm) (I1.kIn _ _ hC) (PySem.W.looks_findIn I1.kIn iC) (fun self => PySem.W.bind_fn I1.kIn self tI) z2
    (codeAny_mono (F.run _ X.stack _ _ ⟨Value.ref (hp.objs.size + 1) :: us, []⟩ (Value.ref (hp.objs.size + 1) :: us) _ _ (fun _ _ _ => False) (hr.make C us []) (J.env0.make C us []) (by simpa using bd) rr hq) fun r s' hq' => ?_))
  rcases r with er | fl
  · exact hx pins σ _ _ er s' J hq'
  · cases fl with
    | ret u =>
      obtain ⟨v, H', I3, rv, rfl, q3⟩ := J.after hq'
      exact ⟨rv, V.ref (hp.objs.size + 1), H', I3, rfl, q3⟩
    | next => exact hq'.elim
    | brk => exact hq'.elim
    | cont => exact hq'.elim
theorem pe_mkVK {g : List Value → List Value → List Value} {gV : List V → List V → List V} (T : OexC X.K C) (iC : PySem.W.findIn X.K (.ref C) "__init__" = some (some (.ref fI))) (tI : PySem.W.typeIn X.K (.ref fI) = some (.type "function")) (F : FnOk X.prog X.w X.K X.mg X.base CX k fI fd ps sp) (hr : Room (k + 1) X.A)
    (hb : KBn X.K fd ps 1 ks g gV) (hgV : ∀ x zs, gV [x] zs = x :: zs) (hx : Passes CX X fun _ _ _ => False) (hg : Gl X x) (hm : X.mg x = some (.ref C)) (hkw : PK X kws tk) (hall : (backToKw pos (keywordEach kws X.env)).all (·.1.isSome) = true := by rfl) (hks : (backToKw pos (keywordEach kws X.env)).filterMap (·.1) = ks := by rfl)
    (hdb : (x == ("__debug__" : Str)) = false := by decide) (hpl : ((backTo pos (starEach [] X.env)).any (·.1) || (backToKw pos (keywordEach kws X.env)).any (·.1.isNone)) = false := by rfl) :
    PE X (.Call (.Name x p) [] kws pos) (tMkVK C sp ks.length tk) := by
  refine ⟨fun pins s σ H Q I h => wpAny_Call_Name_kw (ld_glob I hg hm ?_ hdb)⟩
  refine PySem.W.callWith_KW0 (h₀ := X.base) I.ok.mod.kin T.kC hall (thn (hkw.run pos pins s σ H _ I h) fun ws s1 ⟨zs, H1, I1, rz, l1, q1⟩ => ⟨I1.kIn, ?_⟩) hpl
  rw [hks]
  obtain ⟨nm, q, N, bs, bm, sn, sub, ab, col, dd, k0, k1, k2, k3, k5, hC, hbm⟩ := T.cls
  obtain ⟨hp, gn, dr, tk, os⟩ := s1
  have z1 : hp.objs.size ≤ hp.objs.size + 1 := Nat.le_succ _
  have hq := q1 (hp.objs.size + 1) (I1.hok.fresh z1)
  have J := I1.laid (t' := tk) (a := hp.objs.size + 1) (o := exo (hp.objs.size + 1) C none) (h' := PySem.HandSPX.kwHp hp C) (fun b o z => Heap.get?_push_of_some _ (Heap.get?_push_of_some _ z)) z1 (exo_ok (by heap_get))
  have r1 : Vals [V.ref (hp.objs.size + 1)] [Value.ref (hp.objs.size + 1)] := .cons rfl .nil
  have rr := hb.rel r1 rz
  rw [hgV] at rr
  refine wpAny_call (PySem.HandSPX.kw_own PySem.F.excBase_ValueError (fun Y => PySem.HandSPX.refsVE_contains Y bm hbm) (I1.kIn _ _ hC) (PySem.W.looks_findIn I1.kIn iC) (fun self => PySem.W.bind_fn I1.kIn self tI)
    (codeAny_mono (F.run _ X.stack _ _ ⟨[Value.ref (hp.objs.size + 1)], ks.zip ws⟩ (g [Value.ref (hp.objs.size + 1)] ws) _ _ (fun _ _ _ => False) (hr.make C [] (ks.zip ws)) (J.env0.make C [] (ks.zip ws)) (hb.to _ [_] ws J.kIn rfl (rz.length.symm.trans l1)) rr hq) fun r s' hq' => ?_))
  rcases r with er | fl
  · exact hx pins σ _ _ er s' J hq'
  · cases fl with
    | ret u =>
      obtain ⟨v, H', I3, rv, rfl, q3⟩ := J.after hq'
      exact ⟨rv, V.ref (hp.objs.size + 1), H', I3, rfl, q3⟩
    | next => exact hq'.elim
    | brk => exact hq'.elim
    | cont => exact hq'.elim
end
/-- at a: an error of the class C, without or with a dict -/
def ErrAt (H : Hp) (a C : Addr) : Prop := H a = some (ExO (.ref C) a) ∨ ∃ (d : Addr) (fs : List (Str × V)), H a = some (exo a C (some d)) ∧ H d = some (exd d fs)
theorem errAt_inst {X : Cx} {a C : Addr} {pins : List (Addr × Obj)} {σ : L2.St} {H : Hp} {s : Shared} (I : Inv X pins σ H s) (h : ErrAt H a C) : ∃ oe od, PySem.W.InstAt s.heap a oe C od := by
  rcases h with h | ⟨d, fs, h, hd⟩
  · obtain ⟨⟨oe, vs, g, ⟨z1, z2⟩, hv, _⟩, _⟩ := (show ObjOk X.prog X.w H s.heap a (ExO (.ref C) a) from I.hok a _ h)
    exact ⟨oe, none, g, z1, by unfold PySem.W.notCls; rw [hv] <;> rfl, by rw [z2]; trivial⟩
  · obtain ⟨t1, g⟩ := exo_at I.hok h
    obtain ⟨mA, ⟨o, es, ep, ho, hr⟩, _⟩ := exd_at I.hok hd
    exact ⟨_, some o, g, rfl, rfl, ho⟩
/-- isinstance(e, c), e such an error -/
def rIsV (K : PySem.W.Frag) : List V → Hp → VK → Prop := fun xs H Q => ∃ (a D : Addr) (c : V) (cv : Value) (b : Bool), xs = [.ref a, c] ∧ ErrAt H a D ∧ ExcC K D ∧ (∀ u, RelV c u → u = cv) ∧ PySem.W.kitOne K (.ref D) cv = some b ∧ Q (.bl b) H
theorem call_isV {X : Cx} : CallR X (.builtin "isinstance") (rIsV X.K) := by
  intro pins s σ H xs us Q I r h
  obtain ⟨a, D, c, cv, b, rfl, ha, C, hcv, e, q⟩ := h
  obtain ⟨u1, u2, rfl, r1, r2⟩ := vals2 r
  cases (show u1 = Value.ref a from r1)
  obtain rfl := hcv _ r2
  obtain ⟨oe, od, J⟩ := errAt_inst I ha
  have cl : (PySem.W.clsIn X.K D).isSome = true := by
    obtain ⟨cd, hc, _⟩ := PySem.W.any_some C.hd
    rw [hc]; rfl
  exact PySem.W.kia_one (PySem.W.kitx_exc cl C.hg C.hk C.hs C.ha C.hn C.ht C.hm) I.kIn J e (fun z => nomatch z) fun tk => ⟨.bl b, H, I.kept (t' := tk) fun _ _ z => z, rfl, q⟩
/-- e.n, e an error with a dict -/
def tFldV (K : PySem.W.Frag) (n : Str) (te : TE) : TE := fun σ H Q => te σ H fun x H1 => ∃ (a C d : Addr) (fs : List (Str × V)) (v : V), x = .ref a ∧ H1 a = some (exo a C (some d)) ∧ H1 d = some (exd d fs) ∧ fs.lookup n = some v ∧ XfC K C ∧ PySem.W.findIn K (.ref C) n = some none ∧ Q v H1
theorem pe_fldV {X : Cx} {e : Expr} {te : TE} {pos : Pos} {n : Str} (he : PE X e te) (hb : attributeBase e n X.env (eval e X.env) = eval e X.env := by rfl) : PE X (.Attribute e n pos) (tFldV X.K n te) := by
  refine ⟨fun pins s σ H Q I h => attr_of hb (thn (he.run pins s σ H _ I h) ?_)⟩
  rintro u s1 ⟨x, H1, I1, rx, a, C, d, fs, v, rfl, ha, hd, l, T, hno, q⟩
  obtain rfl : u = Value.ref a := rx
  obtain ⟨t1, g⟩ := exo_at I1.hok ha
  obtain ⟨mA, hns, hr⟩ := exd_at I1.hok hd
  obtain ⟨od, ho, hl⟩ := lookIn_ns hns
  obtain ⟨u, hu, ru⟩ := RelO.some_of (v := v) (o := mA n) (by rw [← l]; exact hr n)
  have J : PySem.W.InstAt s1.heap a _ C (some od) := ⟨g, rfl, rfl, ho⟩
  exact HandSPX.exc_get I1.kIn J T.ga T.gg T.exC (PySem.W.findObj_own T.hdC hno rfl (by rw [hl, hu])) (handed_of ru) ⟨v, H1, I1.tok _, ru, q⟩
end Pd

set_option maxHeartbeats 4000000
namespace Pd
open PySem PySem.Spec PyProof.Rows L2
/-! ### try: .. except A as n: .. except B as n: .. -/
/-- one clause after another, each with the name n at slot i -/
def wAs2 (K : PySem.W.Frag) (i : Nat) (Wout : WX) (D : Ends) : List (Value × (Addr → Value → Option Addr → TS)) → WX
  | [] => Wout
  | (c, ts) :: r => wAs K c i ts (wAs2 K i Wout D r) D
inductive HdN (X : Cx) (n : Str) : List ExceptHandler → List (Value × (Addr → Value → Option Addr → TS)) → Prop
  | nil : HdN X n [] []
  | cons {x : Str} {c : Value} {ts : Addr → Value → Option Addr → TS} {st : Stmt} {sts : List Stmt} {p1 p2 : Pos} {hs : List ExceptHandler} {l : List (Value × (Addr → Value → Option Addr → TS))} (names : Names X x c)
      (body : ∀ (a : Addr) (o : Obj) (cls : Value) (d : Option Addr) (pn : List (Addr × Obj)), Zc cls d o → (∃ fs, o.data = .fields fs) → PSs (X.suite a ((a, o) :: pn)) (st :: sts) (ts a cls d)) (rest : HdN X n hs l) :
      HdN X n (.ExceptHandler (some (.Name x p1)) (some n) (st :: sts) p2 :: hs) ((c, ts) :: l)
section
variable {X : Cx} {n : Str} {i : Nat} {body : List Stmt} {h0 : ExceptHandler} {hs : List ExceptHandler} {l : List (Value × (Addr → Value → Option Addr → TS))} {pos : Pos} {tb : WX → TS} {Wout : WX}
theorem ps_try_named (stk : X.stack = X.env :: X.outer) (frm : X.env.frame = some X.env.locals) (nd : X.N.Nodup) (at_ : X.N[i]? = some n) (kind : X.env.kindOf n = some .local) (out : Takes X Wout)
    (run : ∀ (W : WX) (pn : List (Addr × Obj)) (xe : Value → Shared → Prop), Takes (X.tr pn xe) W → PassesOwn (model X.prog X.w) X.A X.env xe → PSs (X.tr pn xe) body (tb W)) (hd : HdN X n (h0 :: hs) l) :
    PS X (.Try body (h0 :: hs) [] [] pos) (fun D σ H => tb (wAs2 X.K i Wout D l) D σ H) := by
  constructor
  intro pins s σ H D I h
  have ok := I.ok
  have frs_ : X.A.frames = some (X.env :: X.outer) := ok.frames.trans (congrArg _ stk)
  refine wpAny_Try_except (wpAny_mono ((run (wAs2 X.K i Wout D l) (X.pn ++ pins) (fun e s₁ => wpAny (model X.prog X.w) X.A (noteFrame e X.env) (fun _ s₂ => wpAny (model X.prog X.w) X.A (setFlight e none) (fun _ s₃ =>
    wpAny (model X.prog X.w) X.A (handleBy e X.env (h0 :: hs)) (SP X pins D) X.xe s₃) X.xe s₂) X.xe s₁) ?_ PassesOwn.looking).run [] s σ H D (I.toTry _) h) ?_ fun _ _ z => z)
  · rintro u s' ⟨a, B, sI, pins', σ', H', cls, d, rfl, J', nb, up, sky, na, os, ag, w⟩
    have J : Inv X pins σ' H' sI := J'.ofTry ok
    rw [stk] at sky
    show wpAny _ X.A (noteFrame (.ref a) X.env) _ _ _
    refine Sky.land Zc.steady frs_ frm sky fun h3 land up3 => ?_
    have J3 : Inv X pins σ' H' { s' with heap := h3 } := J.landed nb land.1 (up.trans up3) os ag
    obtain ⟨o3, fs3, at3, z3, d3⟩ := land.there
    have apart : a ∉ frs (X.env :: X.outer) := fun m => by
      obtain ⟨_, o', e', no⟩ := land.2.2.1.mem m
      rw [at3] at e'; cases e'
      exact no _ d3
    have nl : a ≠ X.env.locals := fun z => apart (List.mem_filterMap.mpr ⟨X.env, List.mem_cons_self, by rw [frm, z]⟩)
    have nf : a ∉ X.fs := fun m => by
      obtain ⟨e, he, q⟩ := List.mem_filterMap.mp m
      exact apart (List.mem_filterMap.mpr ⟨e, List.mem_cons_of_mem _ he, q⟩)
    have S3 := J3.suite at3 d3 na nl nf
    have LT : PySem.W.Looks (model X.prog X.w) h3 (typeOf (.ref a)) cls := fun A Q E s k q => wpAny_typeOf_ref (k _ _ at3) (by rw [z3.1]; exact q)
    suffices go : ∀ {hs' : List ExceptHandler} {l' : List (Value × (Addr → Value → Option Addr → TS))}, HdN X n hs' l' → wAs2 X.K i Wout D l' cls d σ' H' →
        wpAny (model X.prog X.w) X.A (handleBy (.ref a) X.env hs') (SP X pins D) X.xe { s' with heap := h3 } from go hd w
    intro hs' l' hk
    induction hk with
    | nil =>
      intro w
      refine wpAny_handleBy_nil ?_
      obtain ⟨_, _, _, oe, vs, Tb, oT, _, he, _, hdt, h1, _⟩ := id land
      unfold PySem.passOn
      refine wpAny_bind (wpAny_field he hdt h1 ?_)
      rw [if_neg (show ¬ ((Value.ref Tb == Value.none) = true) from by simp)]
      have up_ : wpAny (model X.prog X.w) X.A (setFlight (.ref a) X.env.frame) (fun _ s4 => wpAny (model X.prog X.w) X.A (throw (.ref a) : Sem Flow) (SP X pins D) X.xe s4) X.xe { s' with heap := h3 } := by
        rw [frm]
        refine HandSPX.setFlight_upZ land fun h4 sky4 up4 => wpAny_throw (out _ _ ?_)
        exact ⟨a, B, sI, pins, σ', H', cls, d, rfl, J, nb, (up.trans up3).trans up4, .inr (.inr (by rw [stk]; exact sky4)), na, os, ag, w⟩
      first
        | exact wpAny_bind (wpAny_pure (wpAny_bind up_))
        | exact wpAny_bind up_
    | @cons x c ts st sts p1 p2 hs2 l2 names suite rest ih =>
      rintro ⟨b, hb1, yes, no⟩
      refine wpAny_handleBy_cons (codeAny_handlers_test ?_) (by intro q; cases q)
      have LM := PySem.W.exm_one (M := model X.prog X.w) (J3.kIn) LT hb1
      have named : ∀ {Q : Value → Shared → Prop} {E : Value → Shared → Prop}, Q c { s' with heap := h3 } → wpAny (model X.prog X.w) (X.A.mark (some (.ref a))) (eval (.Name x p1) X.env) Q E { s' with heap := h3 } := by
        intro Q E q
        obtain ⟨hg, hdb, hm | ⟨hm, hv, hnn⟩⟩ := names
        · exact ld_glob (X := X.suite a ((a, o3) :: (X.pn ++ pins))) S3 hg hm q hdb
        · exact ld_blt (X := X.suite a ((a, o3) :: (X.pn ++ pins))) S3 hg hm hv q hnn hdb
      refine named (LM.here ?_)
      cases b with
      | false =>
        show wpAny _ X.A (handleBy (.ref a) X.env hs2) _ _ _
        exact ih (no rfl)
      | true =>
        refine codeAny_handlers_suite_as (HandSPX.lands_againZ land fun h4 land4 up4 => ?_)
        have J4 : Inv X pins σ' H' { s' with heap := h4 } := J.landed nb land4.1 ((up.trans up3).trans up4) os ag
        obtain ⟨o4, fs4, at4, z4, d4⟩ := land4.there
        refine store_ok (X := X.suite a ((a, o4) :: (X.pn ++ pins))) (v := .ref a) (J4.suite at4 d4 na nl nf) nd at_ (.inl kind) rfl (fun s5 S5 => ?_) (.inr kind)
        refine wpAny_mono ((suite a o4 cls d (X.pn ++ pins) z4 ⟨_, d4⟩).run [] s5 _ H' _ S5 (yes rfl a na)) (fun f s6 hsp => ?_) fun _ _ z => z.elim
        have gone : ∀ {σ6 : L2.St} {H6 : Hp} {Q : Shared → Prop}, Inv (X.suite a ((a, o4) :: (X.pn ++ pins))) [] σ6 H6 s6 → (∀ s7, Inv X pins (σ6.set i none) H6 s7 → Q s7) →
            wpAny (model X.prog X.w) X.A (do bindName X.env n .none; unbindBehindTheSuite X.env n p2) (fun _ s7 => Q s7) X.xe s6 := fun S6 k => gone_ok (S6.unsuite ok) nd at_ kind k
        cases f with
        | ret u =>
          obtain ⟨v6, σ6, H6, S6, r6, q6⟩ := hsp
          exact gone S6 fun s7 J7 => ⟨_, _, _, J7, r6, q6⟩
        | next =>
          obtain ⟨σ6, H6, S6, q6⟩ := hsp
          exact gone S6 fun s7 J7 => ⟨_, _, J7, q6⟩
        | brk =>
          obtain ⟨σ6, H6, S6, q6⟩ := hsp
          exact gone S6 fun s7 J7 => ⟨_, _, J7, q6⟩
        | cont =>
          obtain ⟨σ6, H6, S6, q6⟩ := hsp
          exact gone S6 fun s7 J7 => ⟨_, _, J7, q6⟩
  · intro f s1 hsp
    cases f with
    | ret u =>
      obtain ⟨v, σ', H', J', r, q⟩ := hsp
      exact ⟨v, σ', H', J'.ofTry ok, r, q⟩
    | next =>
      obtain ⟨σ', H', J', q⟩ := hsp
      exact wpAny_execs_nil ⟨σ', H', J'.ofTry ok, q⟩
    | brk =>
      obtain ⟨σ', H', J', q⟩ := hsp
      exact ⟨σ', H', J'.ofTry ok, q⟩
    | cont =>
      obtain ⟨σ', H', J', q⟩ := hsp
      exact ⟨σ', H', J'.ofTry ok, q⟩
end
end Pd

set_option maxHeartbeats 4000000
namespace Pd
open PySem PySem.Spec PyProof.Rows L2 L2H
/-! ### try: .. except (A, B): a suite that may raise -/
theorem flying_keeps {h h' B : Heap} {l : List Env} {a : Addr} {Z : Obj → Prop} (k : ∀ b o, h.get? b = some o → h'.get? b = some o) (f : HandSPX.FlyingZ B l a Z h) : HandSPX.FlyingZ B l a Z h' := by
  obtain ⟨f1, f2, f3, oe, vs, T, oT, ts, he, hz, hd, h1, hn, ht, hT, hdT, h3⟩ := f
  exact ⟨fun b o e => k b o (f1 b o e), f2, f3.of_keeps fun b o e _ => ⟨o, k b o e, rfl⟩, oe, vs, T, oT, ts, k _ _ he, hz, hd, h1, hn, ht, k _ _ hT, hdT, h3⟩
def wPair (K : PySem.W.Frag) (c1 c2 : Value) (ts : Addr → Value → Option Addr → TS) (D : Ends) : WX := fun cls d σ H => PySem.W.exmAny K cls [c1, c2] = some true ∧ ∀ a, H a = none → ts a cls d D σ H
theorem ps_try_pair {X : Cx} {x1 x2 : Str} {C1 C2 : Addr} {body sts : List Stmt} {st : Stmt} {p1 p2 tp pos pos' : Pos} {kk : Nat} {tb : WX → TS} {ts : Addr → Value → Option Addr → TS} {Wout : WX} (stk : X.stack = X.env :: X.outer) (frm : X.env.frame = some X.env.locals) (g1 : Gl X x1) (m1 : X.mg x1 = some (.ref C1)) (g2 : Gl X x2) (m2 : X.mg x2 = some (.ref C2))
    (hpa : ∀ hd : Option Value, PassesOwnAt (model X.prog X.w) (X.A.mark hd) X.A X.env X.xe) (out : Takes X Wout) (run : ∀ (W : WX) (pn : List (Addr × Obj)) (xe : Value → Shared → Prop), L2N.Takes (X.tr pn xe) W → PassesOwn (model X.prog X.w) X.A X.env xe → PSs (X.tr pn xe) body (tb W))
    (suite : ∀ (a : Addr) (o : Obj) (cls : Value) (d : Option Addr) (pn : List (Addr × Obj)), L2N.Zn cls d o → (∃ fs, o.data = .fields fs) → Takes (suiteX X a ((a, o) :: pn)) Wout → HotC (suiteX X a ((a, o) :: pn)) → PSs (suiteX X a ((a, o) :: pn)) (st :: sts) (ts a cls d))
    (d1 : (x1 == ("__debug__" : Str)) = false := by decide) (d2 : (x2 == ("__debug__" : Str)) = false := by decide) :
    PS X (.Try body [.ExceptHandler (some (.Tuple [.Name x1 p1, .Name x2 p2] kk tp)) none (st :: sts) pos'] [] [] pos) (fun D σ H => tb (wPair X.K (.ref C1) (.ref C2) ts D) D σ H) := by
  constructor
  intro pins s σ H D I h
  have ok := I.ok
  have frs_ : X.A.frames = some (X.env :: X.outer) := ok.frames.trans (congrArg _ stk)
  refine wpAny_Try_except (wpAny_mono ((run (wPair X.K (.ref C1) (.ref C2) ts D) (X.pn ++ pins) (fun e s₁ => wpAny (model X.prog X.w) X.A (noteFrame e X.env) (fun _ s₂ => wpAny (model X.prog X.w) X.A (setFlight e none) (fun _ s₃ =>
    wpAny (model X.prog X.w) X.A (handleBy e X.env [.ExceptHandler (some (.Tuple [.Name x1 p1, .Name x2 p2] kk tp)) none (st :: sts) pos']) (SP X pins D) X.xe s₃) X.xe s₂) X.xe s₁) ?_ PassesOwn.looking).run [] s σ H D (I.toTry _) h) ?_ fun _ _ z => z)
  · rintro u s' ⟨a, B, sI, pins', σ', H', cls, d, rfl, J', nb, up, sky, na, os, ag, hit, w⟩
    have J : Inv X pins σ' H' sI := J'.ofTry ok
    rw [stk] at sky
    show wpAny _ X.A (noteFrame (.ref a) X.env) _ _ _
    refine L2N.Sky.land L2N.Zn.steady frs_ frm sky fun h3 land up3 => ?_
    have J3 : Inv X pins σ' H' { s' with heap := h3 } := J.landed nb land.1 (up.trans up3) os ag
    obtain ⟨o3, fs3, at3, z3, dd3⟩ := land.there
    have apart : a ∉ frs (X.env :: X.outer) := fun m => by
      obtain ⟨_, o', e', no⟩ := land.2.2.1.mem m
      rw [at3] at e'; cases e'
      exact no _ dd3
    have nl : a ≠ X.env.locals := fun z => apart (List.mem_filterMap.mpr ⟨X.env, List.mem_cons_self, by rw [frm, z]⟩)
    have nf : a ∉ X.fs := fun m => by
      obtain ⟨e, he, q⟩ := List.mem_filterMap.mp m
      exact apart (List.mem_filterMap.mpr ⟨e, List.mem_cons_of_mem _ he, q⟩)
    have S3 := J3.suite at3 dd3 na nl nf
    refine wpAny_handleBy_cons (codeAny_handlers_test ?_) (by intro q; cases q)
    refine wpAny_Tuple (wpAny_items_cons (ld_glob (X := X.suite a ((a, o3) :: (X.pn ++ pins))) S3 g1 m1 (wpAny_items_cons (ld_glob (X := X.suite a ((a, o3) :: (X.pn ++ pins))) S3 g2 m2 (wpAny_items_nil ⟨by show 2 ≤ sizeLine; decide, ?_⟩) d2)) d1))
    -- the pair is laid
    have kp : ∀ b o, h3.get? b = some o → (h3.push { cls := .type "tuple", data := .seq [Value.ref C1, Value.ref C2].toArray }).get? b = some o := fun _ _ z => Heap.get?_push_of_some _ z
    have LT : PySem.W.Looks (model X.prog X.w) (h3.push { cls := .type "tuple", data := .seq [Value.ref C1, Value.ref C2].toArray }) (typeOf (.ref a)) cls := fun A Q E s k q => wpAny_typeOf_ref (k _ _ (kp _ _ at3)) (by rw [z3.1]; exact q)
    have land' := flying_keeps kp land
    have up' : sI.heap.UpToSlots (h3.push { cls := .type "tuple", data := .seq [Value.ref C1, Value.ref C2].toArray }) := (up.trans up3).trans (Heap.UpToSlots.of_keeps kp)
    refine (PySem.W.exm_tup2 (M := model X.prog X.w) (J3.kIn.keeps kp) LT (Heap.get?_push_size h3 rfl) hit).here ?_
    refine codeAny_handlers_suite (HandSPX.lands_againZ land' fun h4 land4 up4 => ?_)
    have J4 : Inv X pins σ' H' { s' with heap := h4 } := J.landed nb land4.1 (up'.trans up4) os ag
    obtain ⟨o4, fs4, at4, z4, d4⟩ := land4.there
    have tkS : Takes (suiteX X a ((a, o4) :: (X.pn ++ pins))) Wout := fun u2 s2 ⟨a2, B2, sI2, pn2, σ2, H2, cls2, dd2, e2, I2, r⟩ => out u2 s2 ⟨a2, B2, sI2, pins, σ2, H2, cls2, dd2, e2, unsuiteX I2 ok, r⟩
    have hot : HotC (suiteX X a ((a, o4) :: (X.pn ++ pins))) := ⟨(a, o4), ⟨rfl, fs4, d4, z4.2.2 fs4 d4⟩, List.mem_cons_self⟩
    refine wpAny_mono ((suite a o4 cls d (X.pn ++ pins) z4 ⟨_, d4⟩ tkS hot).run [] _ _ H' _ (suiteX_of (J4.suite at4 d4 na nl nf)) (w a na)) (fun f s6 hsp => ?_) (fun e6 s6 z => hpa (some (.ref a)) e6 s6 z)
    cases f with
    | ret u =>
      obtain ⟨v6, σ6, H6, S6, r6, q6⟩ := hsp
      exact ⟨_, _, _, unsuiteX S6 ok, r6, q6⟩
    | next =>
      obtain ⟨σ6, H6, S6, q6⟩ := hsp
      exact ⟨_, _, unsuiteX S6 ok, q6⟩
    | brk =>
      obtain ⟨σ6, H6, S6, q6⟩ := hsp
      exact ⟨_, _, unsuiteX S6 ok, q6⟩
    | cont =>
      obtain ⟨σ6, H6, S6, q6⟩ := hsp
      exact ⟨_, _, unsuiteX S6 ok, q6⟩
  · intro f s1 hsp
    cases f with
    | ret u =>
      obtain ⟨v, σ', H', J', r, q⟩ := hsp
      exact ⟨v, σ', H', J'.ofTry ok, r, q⟩
    | next =>
      obtain ⟨σ', H', J', q⟩ := hsp
      exact wpAny_execs_nil ⟨σ', H', J'.ofTry ok, q⟩
    | brk =>
      obtain ⟨σ', H', J', q⟩ := hsp
      exact ⟨σ', H', J'.ofTry ok, q⟩
    | cont =>
      obtain ⟨σ', H', J', q⟩ := hsp
      exact ⟨σ', H', J'.ofTry ok, q⟩
end Pd

set_option maxHeartbeats 4000000
namespace Pd
open PySem PySem.Spec PyProof.Rows L2
/-! ### errors whose context is known to be None -/
theorem okXN {P : Program} {w : World} {K : PySem.W.Frag} {mg : Str → Option Value} {base : Heap} {x qual : Str} {st : Stmt} {f : Addr} {fd : FuncData} {N ps : List Str} {k : Nat} {sp : Sp} (F : Fun K x qual st f fd) (S : FnScope N ps (defScope st)) (len : ∀ vs H Q E, sp vs H Q E → vs.length = ps.length)
    (hbody : ∀ (cdv : Value) (A : Around) (outer : List Env) (s : Shared) (H : Hp) (vs : List V) (Q : VK) (E : XK), Room k (A.deeper (envOfC qual (defScope st) s.heap.objs.size f cdv)) → sp vs H Q E →
      ∃ t, PSs (cxOf (L2N.CX P w) P w K mg base N qual (defScope st) f cdv A outer s H E) (defBody st) t ∧ t { nx := fun _ H' => Q .non H', rt := Q } (start N vs) H) : FnOk P w K mg base (L2N.CX P w) (k + 1) f fd ps sp := by
  obtain ⟨oc, od, kV, doc, pm, an, cdv, ct, osl, rfl, lk, hcd⟩ := F.ex
  exact fn_of lk hcd S len fun A outer s H vs Q E hr h => hbody cdv A outer s H vs Q E hr h
theorem pmk_oexN {X : Cx} {CX : CXT} {x : Str} {C fI : Addr} {k : Nat} {fd : FuncData} {ps : List Str} {sp : Sp} {e : Expr} {es : List Expr} {ta : TA} {p pos : Pos} (T : OexC X.K C) (iC : PySem.W.findIn X.K (.ref C) "__init__" = some (some (.ref fI))) (tI : PySem.W.typeIn X.K (.ref fI) = some (.type "function"))
    (F : FnOk X.prog X.w X.K X.mg X.base CX k fI fd ps sp) (hr : Room (k + 1) X.A) (hb : Binds X.K fd ps []) (hx : Passes CX X fun _ _ _ => False) (hg : Gl X x) (hm : X.mg x = some (.ref C)) (ha : PA X (e :: es) ta) (hdb : (x == ("__debug__" : Str)) = false := by decide)
    (he : starEach (e :: es) X.env = (false, eval e X.env) :: starEach es X.env := by rfl) (hpl : (backTo pos (starEach es X.env)).any (·.1) = false := by rfl) : L2N.PMk X (.Call (.Name x p) (e :: es) [] pos) (tMkO C sp [] ta) := by
  intro pins s σ H Q I h
  refine wpAny_Call_Name_kw (ld_glob I hg hm ?_ hdb)
  refine PySem.W.callWith_K (h₀ := X.base) I.ok.mod.kin T.kC (thn (ha.run pos pins s σ H _ I h) fun us s1 ⟨vs, H1, I1, r1, hz, q1⟩ => ⟨I1.kIn, show wpAny _ _ (call (.ref C) us) _ _ _ from ?_⟩) he hpl
  obtain ⟨nm, q, N, bs, bm, sn, sub, ab, col, dd, k0, k1, k2, k3, k5, hC, hbm⟩ := T.cls
  obtain ⟨hp, g, dr, tk, os⟩ := s1
  have z1 : hp.objs.size ≤ hp.objs.size + 1 := Nat.le_succ _
  have z2 : us.length ≤ sizeLine := by rw [← Paired.length r1, sizeLine_eq]; omega
  have hq := q1 (hp.objs.size + 1) (I1.hok.fresh z1)
  rw [List.append_nil] at hq
  have keep : ∀ b o, hp.get? b = some o → ((hp.push (PySem.W.kdv_tup us)).push (PySem.HandSPX.excO C hp.objs.size)).get? b = some o := fun b o z => Heap.get?_push_of_some _ (Heap.get?_push_of_some _ z)
  have J := I1.laid (t' := tk) (a := hp.objs.size + 1) (o := exo (hp.objs.size + 1) C none) (h' := (hp.push (PySem.W.kdv_tup us)).push (PySem.HandSPX.excO C hp.objs.size)) keep z1 (exo_ok (by heap_get))
  have rr : Vals (V.ref (hp.objs.size + 1) :: vs) (Value.ref (hp.objs.size + 1) :: us) := .cons rfl r1
  have hl : (Value.ref (hp.objs.size + 1) :: us).length = ps.length := by rw [← rr.length]; exact (F.len _ _ _ _ hq)
  have bd := hb _ (Value.ref (hp.objs.size + 1) :: us) J.kIn (by simpa using hl)
  refine wpAny_call (PySem.HandSPX.call_own PySem.F.excBase_ValueError (fun Y => PySem.HandSPX.refsVE_contains Y bm hbm) (I1.kIn _ _ hC) (PySem.W.looks_findIn I1.kIn iC) (fun self => PySem.W.bind_fn I1.kIn self tI) z2
    (codeAny_mono (F.run _ X.stack _ _ ⟨Value.ref (hp.objs.size + 1) :: us, []⟩ (Value.ref (hp.objs.size + 1) :: us) _ _ (fun _ _ _ => False) (hr.make C us []) (J.env0.make C us []) (by simpa using bd) rr hq) fun r s' hq' => ?_))
  rcases r with er | fl
  · exact hx pins σ _ _ er s' J hq'
  · cases fl with
    | ret u =>
      obtain ⟨v, H2, os2, bare2, un2, hok2, rv, rfl, d, fs, ea, ed, hd1, q2⟩ := hq'
      obtain ⟨h2, g2, d2, t2, os'⟩ := s'
      obtain ⟨t0, G, J2, kG, ge, hoe, na⟩ := mk_end0 (d2 := d2) (t2 := t2) I1 z1 keep un2 hok2 os2 bare2 ea ed hd1
      refine ⟨rv, hp.objs.size + 1, _, _, ⟨G, g2, d2, t2, os'⟩, _, .ref C, some d, rfl, J2, kG, ge, hoe, ⟨rfl, rfl, fun vs e => ?_⟩, rfl, rfl, na, rfl, bare2, raises_own T.exC T.tyC, q2⟩
      cases e
      rfl
    | next => exact hq'.elim
    | brk => exact hq'.elim
    | cont => exact hq'.elim
end Pd

set_option maxHeartbeats 4000000
namespace Pd
open PySem PySem.Spec PyProof.Rows L2 SX PySem.OEX
/-! ### NoPart, with its part -/
def spNpInit (K : PySem.W.Frag) (C : Addr) : Sp := fun vs H Q _ => ∃ (a : Addr) (y : V), vs = [.ref a, y] ∧ H a = some (exo a C none) ∧
  ∀ d, H d = none → d ≠ a → Q .non (upd (upd H d (exd d [("part", y)])) a (exo a C (some d)))
/-- what the class NoStep and its base say -/
structure NpC (K : PySem.W.Frag) (mg : Str → Option Value) (C D : Addr) : Prop where
  o : OexC K C
  no : PySem.W.findIn K (.ref C) "part" = some none
  g : mg "PlainError" = some (.ref D)
  rg : PySem.W.specialIn K (.ref D) "__getattribute__" = some (some (.builtin "type.__getattribute__"))
  rd : PySem.W.readsIn K D (.type "type") = true
  vV : PySem.W.findCls K (.ref D) (.type "type") "__init__" = some (.val (.builtin "ValueError.__init__"))
section
variable {P : Program} {w : World} {K : PySem.W.Frag} {mg : Str → Option Value} {base : Heap}
theorem ok_npInit {f C D : Addr} {fd : FuncData} (F : Fun K "__init__" "NoPart.__init__" sNopartInit f fd) (Z : NpC K mg C D) : FnOk P w K mg base CX0 1 f fd ["self", "part"] (spNpInit K C) := by
  refine F.ok scNopartInit (fun vs H Q E h => ?_) (fun cdv A outer s H vs Q E hr h => ?_)
  · obtain ⟨a, y, rfl, _⟩ := h
    rfl
  · obtain ⟨a, y, rfl, e, q⟩ := h
    refine ⟨_, pss_cons (ps_expr (pe_oeinit (x := "PlainError") rfl Z.g Z.rg Z.rd Z.vV (pa_cons (pv 0) (pa_cons pe_str pa_nil))))
      (pss_one (ps_ost (pv 0) (pv 1))), ?_⟩
    refine ⟨_, rfl, a, C, _, rfl, by show 1 ≤ 1000; decide, Z.o, e, ?_⟩
    exact ⟨_, rfl, _, rfl, a, C, rfl, Z.o, Z.no, .inl ⟨e, fun dx hd n => q dx hd n⟩⟩
end
theorem np_ask {K : PySem.W.Frag} {C : Addr} {H : Hp} {y : V} {Q : XK} (q : ∀ d H', H d = none → Ext H H' → H' d = some (.xd [("part", y)]) → Q (.ref C) (some d) H') :
    [y].length ≤ 1000 ∧ ∀ a, H a = none → spNpInit K C (.ref a :: ([y] ++ [])) (upd H a (exo a C none)) (fun v H2 => v = .non ∧ ∃ (d : Addr) (fs : List (Str × V)), H2 a = some (exo a C (some d)) ∧ H2 d = some (exd d fs) ∧ H d = none ∧ Q (.ref C) (some d) (upd (del H2 a) d (.xd fs))) (fun _ _ _ => False) := by
  refine ⟨by show 1 ≤ 1000; decide, fun a ha => ⟨a, y, rfl, upd_same, fun d hd n => ?_⟩⟩
  have hd' : H d = none := by rw [upd_ne n] at hd; exact hd
  refine ⟨rfl, d, [("part", y)], upd_same, by rw [upd_ne n]; exact upd_same, hd', q d _ hd' (fun b o e => ?_) upd_same⟩
  have nb : b ≠ d := ne_of_none e hd'
  have na : b ≠ a := ne_of_none e ha
  rw [upd_ne nb, del_ne na, upd_ne na, upd_ne nb, upd_ne na]
  exact e
/-- the class NoStep as it is raised -/
structure NpR (P : Program) (w : World) (K : PySem.W.Frag) (mg : Str → Option Value) (base : Heap) (C : Addr) : Prop where
  o : OexC K C
  init : ∃ (g : Addr) (fd : FuncData), PySem.W.findIn K (.ref C) "__init__" = some (some (.ref g)) ∧ PySem.W.typeIn K (.ref g) = some (.type "function") ∧ FnOk P w K mg base CX0 1 g fd ["self", "part"] (spNpInit K C) ∧ Binds K fd ["self", "part"] []
  g : mg "NoPart" = some (.ref C)
/-- Folding(..) of more than six -/
def spFInitU (K : PySem.W.Frag) (C CN : Addr) : Sp := fun vs H Q E => ∃ (o dx r : Addr) (sts : List Stp), vs = [.ref o, .ref r] ∧ H o = some (.ins C dx []) ∧ RowQ K H r sts ∧ (sts.length ≤ 6 → ∀ H', FolQ K C H' o r sts → (∀ b u, b ≠ o → H b = some u → H' b = some u) → Q .non H') ∧ (6 < sts.length → ∀ d H', H d = none → Ext H H' → H' d = some (.xd [("index", .int 6)]) → E (.ref CN) (some d) H')
section
variable {P : Program} {w : World} {K : PySem.W.Frag} {mg : Str → Option Value} {base : Heap}
theorem ok_finitU {f Cf CN : Addr} {fd : FuncData} {dvs : List V} (F : FunD K "__init__" "Folding.__init__" (defArgs sFoldingInit) (defBody sFoldingInit) (defScope sFoldingInit) dvs [] f fd) (T : Nms mg) (C : Cst mg) (Z : Fcl K mg Cf) (N : NsR P w K mg base CN) (G : Cl P w K mg base 3 "is_step" spIsStepQ) :
    FnOk P w K mg base (L2N.CX P w) 4 f fd ["self", "steps"] (spFInitU K Cf CN) := by
  refine F.ok scFoldingInit (fun vs H Q E h => ?_) (fun cdv A outer s H vs Q E hr h => ?_)
  · obtain ⟨o, dx, r, sts, rfl, _⟩ := h
    rfl
  · obtain ⟨o, dx, r, sts, rfl, ho, ⟨ps, hps, al⟩, q1, q2⟩ := h
    have nd := scFoldingInit.nd
    obtain ⟨t6, hm⟩ := C.steps
    obtain ⟨gi, fdi, iC, tI, FI, bI⟩ := N.init
    have ll := al.len
    refine ⟨_, pss_cons (ps_if (pt_not (pt_val (pe_callB call_isi (by rfl) T.isi (by decide +kernel) (pa_cons (pv 1) (pa_cons (pe_bltn (v := .ty "tuple") (by rfl) T.tuple (by decide +kernel) rfl) pa_nil))))) pss_never pss_nil)
      (pss_cons (ps_for (passes_of rfl) rfl (pi_enumT (by rfl) T.enum (pa_cons (pv 1) pa_nil)) (pg_tup (by rfl) (pgs_cons (pg_name (i := 2) nd rfl (Or.inl rfl)) (pgs_cons (pg_name (i := 3) nd rfl (Or.inl rfl)) pgs_nil)))
        (pss_one (ps_if (PW.pt (pw_or (pt_cmpR op_ge (pv 2) (pe_glob (v := .int 6) rfl hm ⟨_, rfl⟩) (nomark _)) (pw_or1 (pt_not (pt_val (pe_cl G hr (by decide) rfl (pa_cons (pv 3) pa_nil))))))) (pss_one (L2N.ps_raise rfl (L2N.takes_of rfl rfl rfl rfl) (pmk_oexN N.o iC tI FI (hr.mono (by decide)) bI pass0 rfl N.g (pa_cons (pv 2) pa_nil)))) pss_nil)))
      (pss_one (ps_fld (pv 0) (pv 1) rfl))), ?_⟩
    refine ⟨_, rfl, _, _, _, _, true, rfl, .ty "tuple", sqT_ty hps, kit_ty (by decide +kernel), true, rfl, iteF ?_⟩
    refine ⟨_, rfl, r, _, rfl, hps, for_it (walk_enumT (xs := ps.map V.ref)) (fun i σ H' => ∃ u w, σ = [some (.ref o), some (.ref r), u, w] ∧ Ext H H' ∧ i ≤ 6) ⟨none, none, rfl, .refl, Nat.zero_le _⟩ (fun i σ H' _ p => by
      obtain ⟨u, w, _, k, _⟩ := p
      exact sqT_keep hps fun o e => k r o e) ?_ ?_⟩
    · rintro i x σ H2 H3 hi ⟨u, w', rfl, k2, hle⟩ ⟨Ta, x1, y1, rfl, hT, rfl, e1, e2⟩
      obtain rfl := Option.some.inj e1
      rw [List.length_map] at hi
      replace e2 : (ps.map V.ref)[i]? = some y1 := e2
      rw [List.getElem?_map] at e2
      obtain ⟨p, hp, rfl⟩ := Option.map_eq_some_iff.mp e2
      obtain ⟨st, es, hst, ok⟩ := al.get hp
      have k3 : Ext H (L2.upd H2 Ta (.tup [V.int (i : Nat), .ref p])) := k2.new' hT
      refine ⟨Ta, _, rfl, SqT.of upd_same, rfl, _, _, rfl, _, _, rfl, rfl, ?_⟩
      refine ⟨_, rfl, _, _, rfl, rfl, _, rfl, ?_⟩
      by_cases hlt : i < 6
      · rw [decide_eq_false (show ¬ ((i : Nat) : Int) ≥ 6 by omega)]
        exact iteF ⟨_, rfl, p, st, rfl, hst.ext k3, ok, fun H4 k4 => ⟨true, rfl, iteF ⟨some (.int (i : Nat)), some (.ref p), rfl, k3.trans k4, hlt⟩⟩⟩
      · obtain rfl : i = 6 := by omega
        rw [decide_eq_true (show (((6 : Nat) : Int)) ≥ 6 by decide)]
        refine iteT (iteT ⟨_, rfl, ni_ask fun d H' hd k e => q2 (by omega) d H' ?_ (k3.trans k) e⟩)
        cases z : H d with
        | none => rfl
        | some o => rw [k3 d o z] at hd; cases hd
    · rintro σ H2 ⟨u, w', rfl, k2, hle⟩
      rw [List.length_map] at hle
      refine ⟨_, rfl, _, rfl, o, Cf, dx, [], rfl, k2 o _ ho, Z.cl, Z.nS, (by show 0 < 1000; decide), ?_⟩
      have no : ∀ b u, b ≠ o → H b = some u → (L2.upd H2 o (.ins Cf dx (putF "_steps" (V.ref r) []))) b = some u := fun b u n e => by rw [upd_ne n]; exact k2 b u e
      refine q1 (by omega) (L2.upd H2 o (.ins Cf dx (putF "_steps" (V.ref r) []))) ⟨⟨dx, upd_same⟩, ⟨ps, sqT_noIns hps ho no, al.same fun p hp ob e => no p ob ?_ e⟩, by omega⟩ no
      rintro rfl
      obtain ⟨st, hst⟩ := al.mem hp
      exact hst.noIns ho
end
end Pd

set_option maxHeartbeats 4000000
namespace Pd
open PySem PySem.Spec PyProof.Rows L2 SX PySem.OEX
def spStepU (K : PySem.W.Frag) : Sp := fun vs H Q E => spIsStepQ vs H Q E ∨ spStepN K vs H Q E
/-- what reading asks of the classes -/
structure FolR (P : Program) (w : World) (K : PySem.W.Frag) (mg : Str → Option Value) (base : Heap) (C CN CQ : Addr) : Prop where
  z : Fcl K mg C
  made : ∃ (f : Addr) (fd : FuncData), Mk K C f ∧ FnOk P w K mg base (L2N.CX P w) 4 f fd ["self", "steps"] (spFInitU K C CN) ∧ Binds K fd ["self", "steps"] []
  none : ∃ (f : Addr) (fd : FuncData) (ds : List Value) (e : Addr), Mk K C f ∧ FnOk P w K mg base CX0 4 f fd ["self", "steps"] (spFInitQ K C) ∧ Vals [V.ref e] ds ∧ Binds K fd ["self", "steps"] ds ∧ ∀ H, RowQ K H e []
  np : NpR P w K mg base CQ
/-- a page and what it writes -/
def Rds (ps : List (List Nat)) (sts : List Stp) : Prop := ps.map rdP = sts.map some
theorem Rds.snoc {ps : List (List Nat)} {sts : List Stp} {y : List Nat} {st : Stp} (h : Rds ps sts) (e : rdP y = some st) : Rds (ps ++ [y]) (sts ++ [st]) := by
  unfold Rds at h ⊢
  rw [List.map_append, List.map_append, h, List.map_cons, e]; rfl
theorem Rds.len {ps : List (List Nat)} {sts : List Stp} (h : Rds ps sts) : ps.length = sts.length := by
  have := congrArg List.length h
  rwa [List.length_map, List.length_map] at this
/-- the three ends of reading parts -/
theorem rds_ends (ps : List (List Nat)) : (∃ sts, Rds ps sts) ∨ ∃ (k : Nat) (sts : List Stp) (y : List Nat), Rds (ps.take k) sts ∧ ps[k]? = some y ∧ rdP y = none := by
  induction ps with
  | nil => exact .inl ⟨[], rfl⟩
  | cons p ps ih =>
    cases e : rdP p with
    | none => exact .inr ⟨0, [], p, rfl, rfl, e⟩
    | some st =>
      rcases ih with ⟨sts, h⟩ | ⟨k, sts, y, h, h1, h2⟩
      · exact .inl ⟨st :: sts, by unfold Rds at h ⊢; rw [List.map_cons, List.map_cons, h, e]⟩
      · exact .inr ⟨k + 1, st :: sts, y, by unfold Rds at h ⊢; rw [List.take_succ_cons, List.map_cons, List.map_cons, h, e], by simpa using h1, h2⟩
theorem Rds.take {ps : List (List Nat)} {sts : List Stp} (h : Rds ps sts) {i : Nat} {y : List Nat} (e : ps[i]? = some y) : ∃ st, rdP y = some st := by
  have h2 := congrArg (fun l : List (Option Stp) => l[i]?) h
  simp only [List.getElem?_map, e, Option.map_some] at h2
  cases z : sts[i]? with
  | none => rw [z] at h2; cases h2
  | some st => rw [z] at h2; exact ⟨st, by simpa using h2⟩
/-- what reading a page comes to: a folding, the part that is wrong, or too many -/
inductive Rn where
  | made (sts : List Stp)
  | part (k : Nat)
  | many
inductive RdAt (x : List Nat) : Rn → Prop where
  | plain (h : x = plainL) : RdAt x (.made [])
  | good {sts : List Stp} (n : x ≠ plainL) (h : Rds (spl2 x) sts) (l : sts.length ≤ 6) : RdAt x (.made sts)
  | bad {k : Nat} {sts : List Stp} {y : List Nat} (n : x ≠ plainL) (h : Rds ((spl2 x).take k) sts) (e : (spl2 x)[k]? = some y) (b : rdP y = none) : RdAt x (.part k)
  | more {sts : List Stp} (n : x ≠ plainL) (h : Rds (spl2 x) sts) (l : 6 < sts.length) : RdAt x .many
theorem rd_ex (x : List Nat) : ∃ r, RdAt x r := by
  by_cases h : x = plainL
  · exact ⟨_, .plain h⟩
  · rcases rds_ends (spl2 x) with ⟨sts, e⟩ | ⟨k, sts, y, e, h1, h2⟩
    · by_cases l : sts.length ≤ 6
      · exact ⟨_, .good h e l⟩
      · exact ⟨_, .more h e (by omega)⟩
    · exact ⟨_, .bad h e h1 h2⟩
/-- what follows, by what it comes to -/
def RnQ (K : PySem.W.Frag) (C CN CQ : Addr) (H : Hp) (Q : VK) (E : XK) : Rn → Prop
  | .made sts => ∀ o r H', Ext H H' → FolQ K C H' o r sts → Q (.ref o) H'
  | .part k => ∀ d H', H d = none → Ext H H' → H' d = some (.xd [("part", .int (k : Nat))]) → E (.ref CQ) (some d) H'
  | .many => ∀ d H', H d = none → Ext H H' → H' d = some (.xd [("index", .int 6)]) → E (.ref CN) (some d) H'
def spRead (K : PySem.W.Frag) (C CN CQ : Addr) : Sp := fun vs H Q E => ∃ v, vs = [v] ∧ ((NoStr K H v ∧ RnQ K C CN CQ H Q E (.part 0)) ∨ ∃ x r, v = .str (S x) ∧ x.length ≤ 1000 ∧ RdAt x r ∧ RnQ K C CN CQ H Q E r)
theorem AlQ.ups {H : Hp} {it : Addr} {xs ys : List V} (hit : H it = some (.lst xs)) {ps : List Addr} {sts : List Stp} (h : AlQ H ps sts) : AlQ (L2.upd H it (.lst ys)) ps sts := h.same fun p hp o e => by
  obtain ⟨st, hst⟩ := h.mem hp
  rw [upd_ne (by
    rintro rfl
    rcases hst with z | ⟨u, z⟩
    · rw [z] at hit; cases hit
    · rw [z] at hit; cases hit)]
  exact e
section
variable {P : Program} {w : World} {K : PySem.W.Frag} {mg : Str → Option Value} {base : Heap}
theorem ok_read {f Cf CN CQ : Addr} {fd : FuncData} (F : Fun K "read_folding" "read_folding" sReadFolding f fd) (T : Nms mg) (C : CstR mg) (Y : FolR P w K mg base Cf CN CQ) (GS : Cl P w K mg base 2 "_step_of" spStepOf) (GI : Cl P w K mg base 3 "is_step" (spStepU K)) : FnOk P w K mg base (L2N.CX P w) 6 f fd ["text"] (spRead K Cf CN CQ) := by
  refine okXN F scReadFolding (fun vs H Q E h => ?_) (fun cdv A outer s H vs Q E hr h => ?_)
  · obtain ⟨v, rfl, _⟩ := h
    rfl
  · obtain ⟨v, rfl, h⟩ := h
    have nd := scReadFolding.nd
    obtain ⟨gi, fdi, iC, tI, FI, bI⟩ := Y.np.init
    obtain ⟨fm, fdm, M, FM, bM⟩ := Y.made
    obtain ⟨f0, fd0, ds0, ed, M0, FI0, rd0, b0, R0⟩ := Y.none
    obtain ⟨tb, hb⟩ := C.between
    obtain ⟨tw, hw⟩ := C.without
    refine ⟨_, pss_cons (ps_if (pt_not (pt_val (pe_callB call_isi (by rfl) T.isi (by decide +kernel) (pa_cons (pv 0) (pa_cons (pe_bltn (v := .ty "str") (by rfl) T.str (by decide +kernel) rfl) pa_nil))))) (pss_one (L2N.ps_raise rfl (L2N.takes_of rfl rfl rfl rfl) (pmk_oexN Y.np.o iC tI FI (hr.mono (by decide)) bI pass0 rfl Y.np.g (pa_cons pe_int pa_nil)))) pss_nil)
      (pss_cons (ps_if (pt_cmpR op_eq (pv 0) (pe_glob (v := .str "plain") rfl hw ⟨_, rfl⟩) (nomark _)) (pss_one (ps_ret (pe_make0 M0 FI0 (hr.mono (by decide)) rfl Y.z.mgC b0 rd0 pass0))) pss_nil)
      (pss_cons (ps_set (i := 1) nd rfl (Or.inl rfl) (pe_lst pa_nil))
      (pss_cons (ps_for (passes_of rfl) rfl (pi_enum (by rfl) T.enum (pa_cons (pe_split (pv 0) (pe_glob (v := .str "; ") rfl hb ⟨_, rfl⟩)) pa_nil)) (pg_tup (by rfl) (pgs_cons (pg_name (i := 2) nd rfl (Or.inl rfl)) (pgs_cons (pg_name (i := 3) nd rfl (Or.inl rfl)) pgs_nil)))
        (pss_cons (ps_set (i := 4) nd rfl (Or.inl rfl) (pe_cl GS hr (by decide) rfl (pa_cons (pv 3) pa_nil)))
        (pss_cons (ps_if (pt_not (pt_val (pe_cl GI hr (by decide) rfl (pa_cons (pv 4) pa_nil)))) (pss_one (L2N.ps_raise rfl (L2N.takes_of rfl rfl rfl rfl) (pmk_oexN Y.np.o iC tI FI (hr.mono (by decide)) bI pass0 rfl Y.np.g (pa_cons (pv 2) pa_nil)))) pss_nil)
        (pss_one (ps_expr (pe_bm PySem.F.plainAttrs_list PySem.F.slot_list_append PySem.F.type_list_append mt_append (pv 1) (pa_cons (pv 4) pa_nil)))))))
      (pss_one (ps_ret (pe_makeS M FM (hr.mono (by decide)) rfl Y.z.mgC bM .nil (fun σ => L2N.passAt (L2N.takes_of rfl rfl rfl rfl) σ) (pa_cons (pe_callTy call_tuple_of (by rfl) T.tuple (by decide +kernel) (pa_cons (pv 1) pa_nil)) pa_nil))))))), ?_⟩
    rcases h with ⟨⟨t, ty, kb⟩, q⟩ | ⟨x, r, rfl, hl, hrd, q⟩
    · exact ⟨_, rfl, _, _, _, _, false, rfl, .ty "str", ty, kit_ty kb, false, rfl, iteT (np_ask fun d H' hd k e => q d H' hd k e)⟩
    refine ⟨_, rfl, _, _, _, _, true, rfl, .ty "str", .base (.str _), kit_ty (by decide +kernel), true, rfl, iteF ?_⟩
    refine ⟨_, rfl, rfl, _, rfl, ?_⟩
    rw [plain_S, dec_S]
    by_cases hp : x = plainL
    · rw [decide_eq_true hp]
      have er : r = .made [] := by
        cases hrd with
        | plain h => rfl
        | good n h l => exact absurd hp n
        | bad n h e b => exact absurd hp n
        | more n h l => exact absurd hp n
      subst er
      exact iteT fun o dx ho hdx ne => made_askQ (R0 H) (Nat.zero_le _) ho hdx ne fun H1 F1 k1 => ⟨rfl, q o ed H1 k1 F1⟩
    rw [decide_eq_false hp]
    refine iteF ⟨by show 0 ≤ sizeLine; decide, fun st hst => ?_⟩
    have kst : Ext H (L2.upd H st (.lst [])) := Ext.refl.new hst
    refine ⟨_, rfl, ⟨_, rfl⟩, _, _, rfl, rfl, by decide +kernel, by rw [S_len, sizeLine_eq]; omega, fun pl hpl => ?_⟩
    have npl : st ≠ pl := by rintro rfl; rw [upd_same] at hpl; cases hpl
    have k0 : Ext H (L2.upd (L2.upd H st (.lst [])) pl (.lst ((Txt.split (S x) "; ").map V.str))) := kst.trans (Ext.refl.new hpl)
    obtain ⟨pls, pln⟩ := p_len (x := x)
    refine ⟨pl, _, rfl, SqL.of upd_same, ?_⟩
    rw [splS2]
    have xsl : ((((spl2 x).map S).map V.str).length) = (spl2 x).length := by rw [List.length_map, List.length_map]
    refine for_it (walk_enum (xs := ((spl2 x).map S).map V.str)) (fun i σ H' => ∃ u2 u3 u4 ps sts, σ = [some (.str (S x)), some (.ref st), u2, u3, u4] ∧ H' st = some (.lst (ps.map V.ref)) ∧ H' pl = some (.lst (((spl2 x).map S).map V.str)) ∧ AlQ H' ps sts ∧ Rds ((spl2 x).take i) sts ∧ Ext H H') ⟨none, none, none, [], [], rfl, ?_, ?_, .nil, rfl, ?_⟩ (fun i σ H' _ p => by
      obtain ⟨u2, u3, u4, ps, sts, _, _, h, _⟩ := p
      exact SqL.of h) ?_ ?_
    · rw [upd_ne npl]; exact upd_same
    · exact upd_same
    · rw [splS2] at k0; exact k0
    · rintro i y σ H2 H3 hi ⟨u2, u3, u4, ps, sts, rfl, h1, h2, al, hrds, k2⟩ ⟨Ta, x1, y1, rfl, hT, rfl, e1, e2⟩
      obtain rfl := Option.some.inj e1
      replace e2 : (((spl2 x).map S).map V.str)[i]? = some y1 := e2
      rw [List.getElem?_map, List.getElem?_map] at e2
      obtain ⟨z, hz, rfl⟩ := Option.map_eq_some_iff.mp e2
      obtain ⟨y, hy, rfl⟩ := Option.map_eq_some_iff.mp hz
      have hyl : y.length ≤ 1000 := Nat.le_trans (pls y (List.mem_of_getElem? hy)) hl
      have k3 : Ext H2 (L2.upd H2 Ta (.tup [V.int (i : Nat), .str (S y)])) := Ext.refl.new hT
      refine ⟨Ta, _, rfl, SqT.of upd_same, rfl, _, _, rfl, _, _, rfl, rfl, ?_⟩
      refine ⟨_, rfl, y, rfl, hyl, fun w0 ws p H4 ew k4 hp4 => ?_⟩
      have k24 := k3.trans k4
      have k04 := k2.trans k24
      have erd : rdP y = rd w0 (unt ws) := by unfold rdP; rw [ew]; rfl
      obtain ⟨wl, wn⟩ := w_len (x := y)
      rw [ew] at wl
      have hun : ∀ v ∈ unt ws, v.length ≤ 1000 := fun v hv => by
        unfold unt at hv
        obtain ⟨u, hu, rfl⟩ := List.mem_map.mp hv
        rw [List.length_map]; exact Nat.le_trans (wl u (List.mem_cons_of_mem _ hu)) hyl
      cases hc : rdP y with
      | none =>
        have er : r = .part i := by
          cases hrd with
          | plain h => exact absurd h hp
          | good n h l =>
            obtain ⟨st, z⟩ := h.take hy
            rw [hc] at z; cases z
          | more n h l =>
            obtain ⟨st, z⟩ := h.take hy
            rw [hc] at z; cases z
          | @bad k sts' y' n h e b =>
            have h1 := hrds
            rcases Nat.lt_trichotomy i k with lt | rfl | gt
            · have : ((spl2 x).take k)[i]? = some y := by rw [List.getElem?_take_of_lt lt]; exact hy
              obtain ⟨st, z⟩ := h.take this
              rw [hc] at z; cases z
            · rfl
            · have : ((spl2 x).take i)[k]? = some y' := by rw [List.getElem?_take_of_lt gt]; exact e
              obtain ⟨st, z⟩ := h1.take this
              rw [b] at z; cases z
        subst er
        have hbad : stpB (S w0) ((unt ws).map (valD w0)) = false := rd_no (by rw [← erd]; exact hc)
        refine ⟨_, rfl, .inr ⟨_, rfl, .bad (SqT.of hp4) (vals_its hun) hbad, fun H5 k5 => ⟨false, rfl, iteT ⟨_, rfl, np_ask fun d H' hd k e => q d H' ?_ ((k04.trans k5).trans k) e⟩⟩⟩⟩
        cases z : H d with
        | none => rfl
        | some o => rw [(k04.trans k5) d o z] at hd; cases hd
      | some s0 =>
        obtain ⟨ok, ev⟩ := rd_yes (by rw [← erd]; exact hc)
        have hq : StQ H4 p s0 := .inl (by rw [hp4, ev])
        refine ⟨_, rfl, .inl ⟨p, s0, rfl, hq, ok, fun H5 k5 => ⟨true, rfl, iteF ?_⟩⟩⟩
        have h5 := k5 st _ (k24 st _ h1)
        refine ⟨_, rfl, .inl ⟨rfl, _, SqL.of h5⟩, _, rfl, st, _, _, rfl, rfl, h5, ?_, ?_⟩
        · have := al.len
          have := hrds.len
          rw [List.length_take] at this
          rw [List.length_map, sizeLine_eq]; omega
        have al5 : AlQ H5 ps sts := (al.ext k24).ext k5
        refine ⟨_, _, _, ps ++ [p], sts ++ [s0], rfl, by rw [upd_same, List.map_append]; rfl, ?_, (al5.snoc (hq.ext k5) ok).ups h5, ?_, fun b o e => ?_⟩
        · rw [upd_ne npl.symm]; exact k5 pl _ (k24 pl _ h2)
        · rw [List.take_succ, hy]; exact hrds.snoc hc
        · rw [upd_ne (ne_of_none e hst)]; exact k5 b o (k04 b o e)
    · rintro σ H2 ⟨u2, u3, u4, ps, sts, rfl, h1, h2, al, hrds, k2⟩
      rw [xsl, List.take_length] at hrds
      have hu : ∀ {sts' : List Stp}, Rds (spl2 x) sts' → sts' = sts := fun {sts'} h => by
        have : sts'.map some = sts.map some := h.symm.trans hrds
        exact (List.map_inj_right (fun a b e => Option.some.inj e)).mp this
      refine ⟨_, rfl, st, _, rfl, .inl ⟨SqL.of h1, fun tl htl => ?_⟩⟩
      have kt : Ext H2 (L2.upd H2 tl (.tup (ps.map V.ref))) := Ext.refl.new htl
      have RQ : RowQ K (L2.upd H2 tl (.tup (ps.map V.ref))) tl sts := ⟨ps, SqT.of upd_same, al.ext kt⟩
      intro y dy hy hdy ne
      have k1 : Ext (L2.upd H2 tl (.tup (ps.map V.ref))) (upd (upd (L2.upd H2 tl (.tup (ps.map V.ref))) dy (.own y)) y (.ins Cf dy [])) := fun b u e => by
        rw [upd_ne (ne_of_none e hy), upd_ne (ne_of_none e hdy)]; exact e
      have k03 := (k2.trans kt).trans k1
      refine ⟨y, dy, tl, sts, rfl, upd_same, RQ.ext k1, fun l6 H3 F3 k3 => ⟨rfl, ?_⟩, fun l6 d H3 hd k3 e => ?_⟩
      · have er : r = .made sts := by
          cases hrd with
          | plain h => exact absurd h hp
          | good n h l => rw [hu h]
          | bad n h e b =>
            obtain ⟨st, z⟩ := hrds.take e
            rw [b] at z; cases z
          | more n h l => rw [hu h] at l; omega
        subst er
        refine q y tl H3 (fun b o e => k3 b o ?_ (k03 b o e)) F3
        exact ne_of_none ((k2.trans kt) b o e) hy
      · have er : r = .many := by
          cases hrd with
          | plain h => exact absurd h hp
          | good n h l => rw [hu h] at l; omega
          | bad n h e b =>
            obtain ⟨st, z⟩ := hrds.take e
            rw [b] at z; cases z
          | more n h l => rfl
        subst er
        refine q d H3 ?_ (k03.trans k3) e
        cases z : H d with
        | none => rfl
        | some o => rw [k03 d o z] at hd; cases hd
end
end Pd

set_option maxHeartbeats 4000000
namespace Pd
open PySem PySem.Spec PyProof.Rows L2
/-- list(text): the list of its signs -/
theorem call_listSg {X : Cx} (hc : X.calm = true) : CallR X (.type "list") (fun xs H Q => ∃ l : List Nat, xs = [.str ⟨l.toArray⟩] ∧ l.length ≤ 1000 ∧ ∀ p, H p = none → Q (.ref p) (upd H p (.lst (l.map fun c => V.str ⟨#[c]⟩)))) := by
  intro pins s σ H xs us Q I r h
  obtain ⟨l, rfl, hz, q⟩ := h
  obtain ⟨u, rfl, t, rfl⟩ := vals1 r
  refine PySem.call_list_str (hn := by rw [sizeLine_eq]; show l.toArray.size ≤ _; rw [List.size_toArray]; omega) (I.ok.hd hc) ⟨l.toArray⟩ t fun h' tk acc c hk hS hacc => ?_
  have hsz : acc.size = l.length := by rw [hacc.1]; exact List.size_toArray ..
  have hys : Vals (l.map fun c => V.str ⟨#[c]⟩) acc.toList := by
    refine vals_of_at (by rw [List.length_map, Array.length_toList]; exact hsz.symm) fun j x u hx hu => ?_
    obtain ⟨c', t', e1, e2⟩ := hacc.2 j u (by simpa using hu)
    rw [List.getElem?_map] at hx
    obtain ⟨d, hd, rfl⟩ := Option.map_eq_some_iff.mp hx
    have : l[j]? = some c' := by simpa using e1
    rw [hd] at this; cases this
    exact ⟨t', e2⟩
  have new : H s.heap.objs.size = none := I.hok.fresh (Nat.le_refl _)
  refine ⟨.ref s.heap.objs.size, upd H s.heap.objs.size (.lst (l.map fun c => V.str ⟨#[c]⟩)), I.laid (t' := tk) (fun b o e => hk b o e) (Nat.le_refl _) ?_, rfl, q _ new⟩
  exact ⟨by rw [List.length_map, sizeLine_eq]; omega, acc.toList, c, hys, by simpa using hS⟩
end Pd

set_option maxHeartbeats 4000000
namespace Pd
open PySem PySem.Spec PyProof.Rows L2 SX
/-! ### the law's own reading of a part -/
def DIG9 : List Nat := [49, 50, 51, 52, 53, 54, 55, 56, 57]
theorem digits9 : ("123456789" : Str) = S DIG9 := by decide +kernel
theorem str_beq (a b : List Nat) : ((S a : Str) == S b) = decide (a = b) := by
  by_cases h : a = b
  · subst h; rw [decide_eq_true rfl]; exact beq_self_eq_true _
  · rw [decide_eq_false h]
    refine beq_eq_false_iff_ne.mpr fun e => h ?_
    have := congrArg (fun s : Str => s.cps.toList) e
    simpa [S] using this
theorem in_nine (v : List Nat) : inV (.str (S v)) (DIG9.map fun c => V.str ⟨#[c]⟩) = true ↔ ∃ d, 49 ≤ d ∧ d ≤ 57 ∧ v = [d] := by
  unfold inV
  rw [List.any_eq_true]
  constructor
  · rintro ⟨y, hy, e⟩
    obtain ⟨c, hc, rfl⟩ := List.mem_map.mp hy
    have e2 : ((S [c] : Str) == S v) = true := e
    rw [str_beq] at e2
    have hc' : 49 ≤ c ∧ c ≤ 57 := by
      unfold DIG9 at hc
      simp only [List.mem_cons, List.not_mem_nil, or_false] at hc
      omega
    exact ⟨c, hc'.1, hc'.2, (of_decide_eq_true e2).symm⟩
  · rintro ⟨d, h1, h2, rfl⟩
    refine ⟨V.str ⟨#[d]⟩, List.mem_map.mpr ⟨d, ?_, rfl⟩, ?_⟩
    · unfold DIG9; simp only [List.mem_cons, List.not_mem_nil, or_false]; omega
    · show ((S [d] : Str) == S [d]) = true
      exact beq_self_eq_true _
/-- the digit of a cut -/
def gCut (w : List Nat) (u : List (List Nat)) : Option Nat := if w = cutW then (match u with
  | [[d]] => if 49 ≤ d ∧ d ≤ 57 then some d else none
  | _ => none) else none
def gVals (w : List Nat) (u : List (List Nat)) : List V := match gCut w u with
  | some d => [.str "cut", .int ((d : Int) - 48)]
  | none => .str (S w) :: u.map fun v => .str (S v)
theorem gCut_yes {w : List Nat} {u : List (List Nat)} {d : Nat} (h : gCut w u = some d) : w = cutW ∧ u = [[d]] ∧ 49 ≤ d ∧ d ≤ 57 := by
  unfold gCut at h
  by_cases e : w = cutW
  · rw [if_pos e] at h
    split at h
    · rename_i d'
      by_cases q : 49 ≤ d' ∧ d' ≤ 57
      · rw [if_pos q] at h; cases h; exact ⟨e, rfl, q.1, q.2⟩
      · rw [if_neg q] at h; cases h
    · cases h
  · rw [if_neg e] at h; cases h
theorem gCut_mk {d : Nat} (h : 49 ≤ d ∧ d ≤ 57) : gCut cutW [[d]] = some d := by
  unfold gCut
  rw [if_pos rfl]
  exact if_pos h
/-- a step that is written: the guess is its tuple -/
theorem g_yes {w : List Nat} {u : List (List Nat)} {st : Stp} (h : rd w u = some st) : gVals w u = stpVals st := by
  obtain ⟨_, e⟩ := rd_yes h
  rw [← e]
  unfold gVals
  cases hc : gCut w u with
  | some d =>
    obtain ⟨rfl, rfl, h1, h2⟩ := gCut_yes hc
    show [V.str "cut", V.int ((d : Int) - 48)] = V.str (S cutW) :: [valV' cutW [d]]
    have : valV' cutW [d] = .int ((d : Int) - 48) := by
      unfold valV'
      rw [if_pos rfl]
      show (if 48 ≤ d ∧ d ≤ 57 then V.int ((d : Int) - 48) else .str (S [d])) = _
      rw [if_pos ⟨by omega, h2⟩]
    rw [this, ← words_S.2.2.2.2.2]
  | none =>
    by_cases hw : w = cutW
    · exfalso
      subst hw
      unfold rd at h
      rw [if_neg (by decide), if_neg (by decide)] at h
      match u, h with
      | [v], h =>
        replace h : (if cutW = dropW then dropC v else if cutW = leadW then oneC .lead v else if cutW = onceW then oneC .once v else if cutW = cutW then cutC v else none) = some st := h
        rw [if_neg (by decide), if_neg (by decide), if_neg (by decide), if_pos rfl] at h
        obtain ⟨d, d1, d2, rfl, _⟩ := cutC_yes h
        rw [gCut_mk ⟨d1, d2⟩] at hc; cases hc
    · have : valV' w = fun v => V.str (S v) := funext fun v => by unfold valV'; rw [if_neg hw]
      rw [this]
/-- all the characters are the package's -/
theorem rd_chars {w : List Nat} {u : List (List Nat)} {st : Stp} (h : rd w u = some st) (n : w ≠ cutW) : ∀ v ∈ u, ∀ c ∈ v, c ∈ CH := by
  unfold rd at h
  by_cases h1 : w = lowW
  · rw [if_pos h1] at h
    by_cases q : u = []
    · subst q; exact fun v hv => nomatch hv
    · rw [if_neg q] at h; cases h
  rw [if_neg h1] at h
  by_cases h2 : w = swapW
  · rw [if_pos h2] at h
    obtain ⟨a, ha, b, hb, rfl, _⟩ := twoC_yes h
    intro v hv c hc
    simp only [List.mem_cons, List.not_mem_nil, or_false] at hv
    rcases hv with rfl | rfl
    · rw [List.mem_singleton.mp hc]; exact ha
    · rw [List.mem_singleton.mp hc]; exact hb
  rw [if_neg h2] at h
  match u, h with
  | [v], h =>
    replace h : (if w = dropW then dropC v else if w = leadW then oneC .lead v else if w = onceW then oneC .once v else if w = cutW then cutC v else none) = some st := h
    intro v' hv c hc
    rw [List.mem_singleton.mp hv] at hc
    by_cases h3 : w = dropW
    · rw [if_pos h3] at h
      unfold dropC at h
      by_cases q : choB v = true
      · exact (choB_ok q).2.2.2 c hc
      · rw [if_neg q] at h; cases h
    rw [if_neg h3] at h
    by_cases h4 : w = leadW
    · rw [if_pos h4] at h
      obtain ⟨d, hd, rfl, _⟩ := oneC_yes h
      rw [List.mem_singleton.mp hc]; exact hd
    rw [if_neg h4] at h
    by_cases h5 : w = onceW
    · rw [if_pos h5] at h
      obtain ⟨d, hd, rfl, _⟩ := oneC_yes h
      rw [List.mem_singleton.mp hc]; exact hd
    rw [if_neg h5, if_neg n] at h; cases h
/-- what is asked of sizes, where all the characters are right -/
def szB (w : List Nat) (u : List (List Nat)) : Bool :=
  if w = dropW ∧ u.length = 1 then (u.all fun v => decide (1 ≤ v.length) && decide (v.length ≤ 10) && decide v.Nodup) else
  if w = swapW then decide (u.map (·.length) = [1, 1]) else
  if w = leadW ∨ w = onceW then decide (u.map (·.length) = [1]) else decide (w = lowW) && decide (u.map (·.length) = [])
theorem sz_low {u : List (List Nat)} : szB lowW u = decide (u.map (·.length) = []) := by
  unfold szB
  rw [if_neg (fun z : lowW = dropW ∧ _ => absurd z.1 (by decide)), if_neg (by decide), if_neg (by decide), decide_eq_true rfl, Bool.true_and]
theorem sz_swap {u : List (List Nat)} : szB swapW u = decide (u.map (·.length) = [1, 1]) := by
  unfold szB
  rw [if_neg (fun z : swapW = dropW ∧ _ => absurd z.1 (by decide)), if_pos rfl]
theorem is_one {v : List Nat} (l : v.length = 1) (hv : ∀ c ∈ v, c ∈ CH) : ∃ c ∈ CH, v = [c] := by
  match v, l with
  | [c], _ => exact ⟨c, hv c (by simp), rfl⟩
theorem sz_rd {w : List Nat} {u : List (List Nat)} (n : w ≠ cutW) (h : ∀ v ∈ u, ∀ c ∈ v, c ∈ CH) : (rd w u).isSome = szB w u := by
  by_cases h1 : w = lowW
  · subst h1
    rw [sz_low]
    unfold rd
    rw [if_pos rfl]
    cases u with
    | nil => rfl
    | cons a r => rw [if_neg (List.cons_ne_nil _ _)]; rfl
  by_cases h2 : w = swapW
  · subst h2
    rw [sz_swap]
    unfold rd
    rw [if_neg (by decide), if_pos rfl]
    cases ht : twoC u with
    | some st =>
      obtain ⟨a, _, b, _, rfl, _⟩ := twoC_yes ht
      rfl
    | none =>
      refine (decide_eq_false fun z => ?_).symm
      match u, h, ht, z with
      | [a, b], h, ht, z =>
        simp only [List.map_cons, List.map_nil, List.cons.injEq, and_true] at z
        obtain ⟨c, hc, rfl⟩ := is_one z.1 (h a (by simp))
        obtain ⟨d, hd, rfl⟩ := is_one z.2 (h b (by simp))
        unfold twoC at ht
        simp [hc, hd] at ht
      | [], _, _, z => cases z
      | [_], _, _, z => simp at z
      | _ :: _ :: _ :: _, _, _, z => simp at z
  unfold rd szB
  rw [if_neg h1, if_neg h2]
  have many : u.length ≠ 1 → false = (if w = dropW ∧ u.length = 1 then (u.all fun v => decide (1 ≤ v.length) && decide (v.length ≤ 10) && decide v.Nodup) else
      if w = swapW then decide (u.map (·.length) = [1, 1]) else
      if w = leadW ∨ w = onceW then decide (u.map (·.length) = [1]) else decide (w = lowW) && decide (u.map (·.length) = [])) := fun l => by
    rw [if_neg (fun z => l z.2), if_neg h2]
    by_cases h4 : w = leadW ∨ w = onceW
    · rw [if_pos h4]
      refine (decide_eq_false fun z => l ?_).symm
      have := congrArg List.length z
      rwa [List.length_map] at this
    · rw [if_neg h4, decide_eq_false h1]; rfl
  match u, h, many with
  | [], _, many => exact many (by decide)
  | _ :: _ :: _, _, many => exact many (by simp only [List.length_cons]; omega)
  | [v], h, _ =>
    have hv := h v (by simp)
    show Option.isSome (if w = dropW then dropC v else if w = leadW then oneC .lead v else if w = onceW then oneC .once v else if w = cutW then cutC v else none) = _
    by_cases h3 : w = dropW
    · rw [if_pos h3, if_pos ⟨h3, rfl⟩, List.all_cons, List.all_nil, Bool.and_true]
      unfold dropC choB
      have : (v.map fun c => isChr [c]).all id = true := by
        rw [List.all_map, List.all_eq_true]
        exact fun c hc => isChr_one (hv c hc)
      rw [this, Bool.and_true, ← Bool.and_assoc]
      cases (decide (1 ≤ v.length) && decide (v.length ≤ 10) && decide v.Nodup) <;> rfl
    rw [if_neg h3, if_neg (show ¬ (w = dropW ∧ [v].length = 1) from fun z => h3 z.1), if_neg h2]
    have one : ∀ k : Nat → Stp, (oneC k v).isSome = decide ([v].map (·.length) = [1]) := fun k => by
      cases hk : oneC k v with
      | some st =>
        obtain ⟨c, _, rfl, _⟩ := oneC_yes hk
        rfl
      | none =>
        refine (decide_eq_false fun z => ?_).symm
        simp only [List.map_cons, List.map_nil, List.cons.injEq, and_true] at z
        obtain ⟨c, hc, rfl⟩ := is_one z hv
        have : (if c ∈ CH then some (k c) else none) = none := hk
        rw [if_pos hc] at this; cases this
    by_cases h4 : w = leadW
    · rw [if_pos h4, if_pos (.inl h4)]; exact one _
    rw [if_neg h4]
    by_cases h5 : w = onceW
    · rw [if_pos h5, if_pos (.inr h5)]; exact one _
    rw [if_neg h5, if_neg n, if_neg (fun z => z.elim h4 h5), decide_eq_false h1]; rfl
end Pd

set_option maxHeartbeats 4000000
namespace Pd
open PySem PySem.Spec PyProof.Rows L2 SX
def spGuess : Sp := fun vs H Q _ => ∃ x : List Nat, vs = [.str (S x)] ∧ x.length ≤ 1000 ∧ ∀ w ws p H', spl32 x = w :: ws → Ext H H' → H' p = some (.tup (gVals w (unt ws))) → Q (.ref p) H'
def spIsSt (K : PySem.W.Frag) : Sp := fun vs H Q _ => ∃ (p : Addr) (w : List Nat) (u : List (List Nat)), vs = [.ref p] ∧ SqT K H p (gVals w u) ∧ (∀ v ∈ u, v.length ≤ 1000) ∧ u.length ≤ 1000 ∧ ∀ H', Ext H H' → Q (.bl (rd w u).isSome) H'
theorem joinL_nil : ∀ u : List (List Nat), TL.joinL [] u = u.flatten
  | [] => rfl
  | [x] => by simp [TL.joinL]
  | x :: y :: r => by
    have ih := joinL_nil (y :: r)
    show x ++ ([] ++ TL.joinL [] (y :: r)) = _
    rw [ih]; rfl
theorem tailT {K : PySem.W.Frag} {σ : L2.St} {H : Hp} {r : Addr} {xs : List V} {Q : VK} (hR : SqT K H r xs) (h1 : 1 ≤ xs.length) (q : ∀ r' H', Ext H H' → SqT K H' r' xs.tail → Q (.ref r') H') : tNoPart σ H fun u H3 => rSlA K (.ref r) (some 1) u H3 Q := slice1 hR h1 q
theorem eqv_nil : PyData.eqv (.list []) (.list []) = true := by decide +kernel
def lenD (u : List (List Nat)) : PyData := .list ((u.map (·.length)).map fun k : Nat => PyData.int (k : Nat))
theorem eqv_len0 (u : List (List Nat)) : PyData.eqv (lenD u) (.list []) = decide (u.map (·.length) = []) := by
  cases u with
  | nil => decide +kernel
  | cons a r => simp [lenD, PyData.eqv, PyData.eqvAll]
theorem eqv_len1 (u : List (List Nat)) : PyData.eqv (lenD u) (.list [.int 1]) = decide (u.map (·.length) = [1]) := by
  match u with
  | [] => decide +kernel
  | [a] =>
    simp only [lenD, PyData.eqv, PyData.eqvAll, List.map_cons, List.map_nil, Bool.and_true]
    have : (((a.length : Nat) : Int) == 1) = decide (a.length = 1) := by
      by_cases h : a.length = 1
      · rw [h]; decide
      · rw [decide_eq_false h]; exact beq_eq_false_iff_ne.mpr (by omega)
    simp [this]
  | a :: b :: r => simp [lenD, PyData.eqv, PyData.eqvAll]
theorem eqv_len2 (u : List (List Nat)) : PyData.eqv (lenD u) (.list [.int 1, .int 1]) = decide (u.map (·.length) = [1, 1]) := by
  match u with
  | [] => decide +kernel
  | [a] => simp [lenD, PyData.eqv, PyData.eqvAll]
  | [a, b] =>
    simp only [lenD, PyData.eqv, PyData.eqvAll, List.map_cons, List.map_nil, Bool.and_true]
    have one : ∀ n : Nat, (((n : Nat) : Int) == 1) = decide (n = 1) := fun n => by
      by_cases h : n = 1
      · rw [h]; decide
      · rw [decide_eq_false h]; exact beq_eq_false_iff_ne.mpr (by omega)
    simp [one]
  | a :: b :: c :: r => simp [lenD, PyData.eqv, PyData.eqvAll]
theorem ints_dp' {K : PySem.W.Frag} {H : Hp} : ∀ ns : List Nat, DpAll K H (ns.map fun k : Nat => V.int (k : Nat)) (ns.map fun k : Nat => PyData.int (k : Nat))
  | [] => .nil
  | _ :: ns => .cons (.int _) (ints_dp' ns)
theorem ints_shape' (ns : List Nat) : SeqAt.shaped (.list (ns.map fun k : Nat => PyData.int (k : Nat))) = true := by
  have key : PyData.canLayAll0 (ns.map fun k : Nat => PyData.int (k : Nat)) = true ∧ PyData.depthAll (ns.map fun k : Nat => PyData.int (k : Nat)) ≤ 1 := by
    induction ns with
    | nil => exact ⟨rfl, Nat.zero_le _⟩
    | cons n ns ih =>
      obtain ⟨h1, h2⟩ := ih
      refine ⟨?_, ?_⟩
      · rw [List.map_cons]; simp only [PyData.canLayAll0, PyData.canLay0, h1, Bool.and_self]
      · rw [List.map_cons]; simp only [PyData.depthAll, PyData.depth]; omega
  unfold SeqAt.shaped
  simp only [PyData.canLay0, PyData.depth, key.1, Bool.true_and]
  exact decide_eq_true (by have := key.2; omega)
section
variable {P : Program} {w : World} {K : PySem.W.Frag} {mg : Str → Option Value} {base : Heap}
theorem ok_guess {f : Addr} {fd : FuncData} (F : Fun K "_law_guess" "_law_guess" sLawGuess f fd) (T : Nms mg) (ml : mg "list" = none) : FnOk P w K mg base CX0 1 f fd ["part"] spGuess := by
  refine fnOk_1 F scLawGuess (by decide +kernel) (by decide) (fun vs H Q E h => ?_) (fun cdv A outer s H vs Q E hr h => ?_)
  · obtain ⟨x, rfl, _⟩ := h
    rfl
  · obtain ⟨x, rfl, hl, q⟩ := h
    have nd := scLawGuess.nd
    refine ⟨_, pssn_cut (psn_set (i := 1) nd rfl (Or.inl rfl) (pen (pe_split (pv 0) pe_str)))
      (pssn_cut (psn_setLc (i := 2) (own := [("word", 3)]) (g := gName 3) (tt := tYes) rfl nd rfl rfl (sw_true rfl rfl rfl (by decide +kernel)) (pi_list (pe_slice sl_list (pv 1) (po_some pe_int) po_none)) (blkOk_by (N := ["part", "words", "rest", "word"]) (sc := defScope sLawGuess) (by decide +kernel)) (fun _ _ _ _ _ => pg_name (i := 3) nd rfl (Or.inl rfl)) (fun _ _ _ _ _ => pts_nil)
        (fun _ _ _ _ _ => pen_replC (Nat.le_refl 1) (pv 3)))
      (pssn_cut (psn (ps_if (PW.pt (pw_and (pt_cmpR op_eq (pe_ix ix_list (pv 1) pe_int (fun _ _ => rfl)) pe_str (nomark _)) (pw_and (pt_cmpR op_eq (pe_callB call_len_seq (by rfl) T.len PySem.boot_len (pa_cons (pv 2) pa_nil)) pe_int (nomark _))
          (pw_and1 (pt_cmpR op_in_seq (pe_ix ix_list (pv 2) pe_int (fun _ _ => rfl)) (pe_callTy (call_listSg rfl) (by rfl) ml (by decide +kernel) (pa_cons pe_str pa_nil)) rfl)))))
          (pss_one (ps_ret (pe_tup (pa_cons pe_str (pa_cons (pe_callTy call_int_str (by rfl) T.int (by decide +kernel) (pa_cons (pe_ix ix_list (pv 2) pe_int (fun _ _ => rfl)) pa_nil)) pa_nil))))) pss_nil))
      (pssn_one (psn (ps_ret (pe_op op_catA (pe_tup (pa_cons (pe_ix ix_list (pv 1) pe_int (fun _ _ => rfl)) pa_nil)) (pe_callTy call_tuple_of (by rfl) T.tuple (by decide +kernel) (pa_cons (pv 2) pa_nil)))))))), ?_⟩
    obtain ⟨wl, wn⟩ := w_len (x := x)
    obtain ⟨w0, ws, ew⟩ : ∃ w ws, spl32 x = w :: ws := by
      cases h : spl32 x with
      | nil => exact absurd h (spl_acc x [])
      | cons w ws => exact ⟨w, ws, rfl⟩
    rw [ew] at wl wn
    have wsl : ∀ v ∈ ws, v.length ≤ 1000 := fun v hv => Nat.le_trans (wl v (List.mem_cons_of_mem _ hv)) hl
    rw [List.length_cons] at wn
    refine ⟨fun σ' H' => ∃ a, σ' = [some (.str (S x)), some (.ref a), none, none] ∧ H' a = some (.lst (((w0 :: ws).map S).map V.str)) ∧ Ext H H', ?_, ?_⟩
    · refine ⟨_, rfl, ⟨_, rfl⟩, _, _, rfl, rfl, by decide +kernel, by rw [S_len, sizeLine_eq]; omega, fun p hp => ⟨p, rfl, ?_, Ext.refl.new hp⟩⟩
      rw [splS32, ew]; exact upd_same
    rintro σ1 H1 ⟨a, rfl, ha, k1⟩
    refine ⟨fun σ' H' => ∃ b u3, σ' = [some (.str (S x)), some (.ref a), some (.ref b), u3] ∧ H' b = some (.lst (((unt ws).map S).map V.str)) ∧ Ext H1 H', ?_, ?_⟩
    · refine ⟨_, rfl, 1, rfl, tailL (SqL.of ha) fun p hp => ⟨p, rfl, ⟨_, SqL.of upd_same⟩, fun D hD => ?_⟩⟩
      have kp : Ext H1 (L2.upd H1 p (.lst (((w0 :: ws).map S).map V.str).tail)) := Ext.refl.new hp
      refine lc_it (walk_list (xs := (ws.map S).map V.str)) (fun i H' => H' D = some (.lst ((((unt ws).take i).map S).map V.str)) ∧ Ext (L2.upd H1 p (.lst (((w0 :: ws).map S).map V.str).tail)) H') ⟨upd_same, Ext.refl.new hD⟩ (fun i H' _ z => SqL.of (z.2 p _ upd_same)) ?_ ?_
      · rintro i y H2 H3 hi ⟨h2, k2⟩ ⟨rfl, hx⟩
        rw [List.getElem?_map, List.getElem?_map] at hx
        obtain ⟨z, hz, rfl⟩ := Option.map_eq_some_iff.mp hx
        obtain ⟨v, hv, rfl⟩ := Option.map_eq_some_iff.mp hz
        have hvl := wsl v (List.mem_of_getElem? hv)
        have hiw := (List.getElem?_eq_some_iff.mp hv).1
        refine ⟨rfl, _, rfl, S v, rfl, ?_, ?_⟩
        · have e : (" " : Str).length = 1 := by decide +kernel
          rw [S_len, e]; omega
        rw [untild_S]
        refine ⟨_, h2, ?_, ?_, fun c o e => ?_⟩
        · rw [List.length_map, List.length_map, List.length_take, sizeLine_eq]; omega
        · have : (unt ws)[i]? = some (v.map untild) := by unfold unt; rw [List.getElem?_map, hv]; rfl
          rw [upd_same, List.take_succ, this, List.map_append, List.map_append]; rfl
        · rw [upd_ne (ne_of_none e hD)]; exact k2 c o e
      · rintro H2 ⟨h2, k2⟩
        have : ((ws.map S).map V.str).length = (unt ws).length := by unfold unt; rw [List.length_map, List.length_map, List.length_map]
        rw [this, List.take_length] at h2
        exact ⟨D, _, rfl, h2, kp.trans k2⟩
    rintro σ2 H2 ⟨b, u3, rfl, hb, k2⟩
    have hun : ∀ v ∈ unt ws, v.length ≤ 1000 := fun v hv => by
      unfold unt at hv
      obtain ⟨u, hu, rfl⟩ := List.mem_map.mp hv
      rw [List.length_map]; exact wsl u hu
    have hunl : (unt ws).length ≤ 1000 := by unfold unt; rw [List.length_map]; omega
    have ha2 := k2 a _ ha
    have k02 := k1.trans k2
    -- the two ends
    refine ⟨fun σ' H' => gCut w0 (unt ws) = none ∧ σ' = [some (.str (S x)), some (.ref a), some (.ref b), u3] ∧ Ext H2 H', ?_, ?_⟩
    · refine ⟨_, rfl, a, _, 0, _, rfl, rfl, SqL.of ha2, at0, rfl, _, rfl, ?_⟩
      rw [words_S.2.2.2.2.2, dec_S]
      by_cases hw : w0 = cutW
      case neg =>
        rw [decide_eq_false hw]
        exact iteF ⟨by unfold gCut; rw [if_neg hw], rfl, .refl⟩
      rw [decide_eq_true hw]
      refine iteT ⟨_, rfl, b, _, rfl, .inl (SqL.of hb), rfl, _, rfl, ?_⟩
      have ll : (((((unt ws).map S).map V.str).length : Nat) : Int) = ((unt ws).length : Nat) := by rw [List.length_map, List.length_map]
      rw [ll]
      by_cases h1 : (unt ws).length = 1
      case neg =>
        rw [decide_eq_false (show ¬ V.int (((unt ws).length : Nat) : Int) = V.int 1 from fun z => by injection z with z; omega)]
        refine iteF ⟨?_, rfl, .refl⟩
        cases hc : gCut w0 (unt ws) with
        | none => rfl
        | some d =>
          obtain ⟨_, e, _⟩ := gCut_yes hc
          rw [e] at h1; exact absurd rfl h1
      rw [decide_eq_true (show V.int (((unt ws).length : Nat) : Int) = V.int 1 by rw [h1]; rfl)]
      obtain ⟨v, ev⟩ : ∃ v, unt ws = [v] := by
        match hh : unt ws, h1 with
        | [v], _ => exact ⟨v, rfl⟩
      rw [ev] at hb
      refine iteT ⟨_, rfl, b, _, 0, _, rfl, rfl, SqL.of hb, at0, DIG9, by rw [digits9], by decide, fun pd hpd => ?_⟩
      have kd : Ext H2 (L2.upd H2 pd (.lst (DIG9.map fun c => V.str ⟨#[c]⟩))) := Ext.refl.new hpd
      refine ⟨pd, _, rfl, .inl (SqL.of upd_same), rfl, by decide, _, rfl, ?_⟩
      show if inV (.str (S v)) (DIG9.map fun c => V.str ⟨#[c]⟩) = true then _ else _
      by_cases hi : ∃ d, 49 ≤ d ∧ d ≤ 57 ∧ v = [d]
      · obtain ⟨d, d1, d2, rfl⟩ := id hi
        rw [(in_nine [d]).mpr hi]
        refine iteT ⟨_, rfl, b, _, 0, _, rfl, rfl, SqL.of (kd b _ hb), at0, S [d], _, rfl, int_dig ⟨by omega, d2⟩, (by rw [S_len]; show 1 ≤ 640; decide), by show 2 ≤ sizeLine; decide, fun t ht => ?_⟩
        have kt := (k02.trans kd).new' ht (o := .tup [.str "cut", .int ((d : Int) - 48)])
        refine q w0 ws t _ ew kt ?_
        have : gVals w0 (unt ws) = [.str "cut", .int ((d : Int) - 48)] := by
          unfold gVals; rw [ev, hw, gCut_mk ⟨d1, d2⟩]
        rw [this]; exact upd_same
      · have : inV (.str (S v)) (DIG9.map fun c => V.str ⟨#[c]⟩) = false := by
          cases h : inV (.str (S v)) (DIG9.map fun c => V.str ⟨#[c]⟩) with
          | false => rfl
          | true => exact absurd ((in_nine v).mp h) hi
        rw [this]
        refine iteF ⟨?_, rfl, kd⟩
        cases hc : gCut w0 (unt ws) with
        | none => rfl
        | some d =>
          obtain ⟨_, e, d1, d2⟩ := gCut_yes hc
          rw [ev] at e
          exact absurd ⟨d, d1, d2, by simpa using e⟩ hi
    rintro σ3 H3 ⟨hc, rfl, k3⟩
    refine ⟨_, rfl, a, _, 0, _, rfl, rfl, SqL.of (k3 a _ ha2), at0, by show 1 ≤ sizeLine; decide, fun p1 hp1 => ?_⟩
    have kp1 : Ext H3 (L2.upd H3 p1 (.tup [V.str (S w0)])) := Ext.refl.new hp1
    refine ⟨_, rfl, b, _, rfl, .inl ⟨SqL.of (kp1 b _ (k3 b _ hb)), fun p2 hp2 => ?_⟩⟩
    have kp2 : Ext (L2.upd H3 p1 (.tup [V.str (S w0)])) (L2.upd (L2.upd H3 p1 (.tup [V.str (S w0)])) p2 (.tup (((unt ws).map S).map V.str))) := Ext.refl.new hp2
    have eg : gVals w0 (unt ws) = .str (S w0) :: ((unt ws).map S).map V.str := by
      unfold gVals
      rw [hc, List.map_map]; rfl
    have k4 := (k02.trans k3).trans (kp1.trans kp2)
    refine ⟨p1, p2, _, _, rfl, rfl, SqT.of (kp2 p1 _ upd_same), SqT.of upd_same, ?_, fun e => absurd e (List.cons_ne_nil _ _), fun _ e => ?_, fun _ _ p3 hp3 => ?_⟩
    · rw [List.length_map, List.length_map, sizeLine_eq]; show 1 + _ ≤ _; omega
    · refine q w0 ws p1 _ ew k4 ?_
      have h0 : (V.str (S w0) :: ((unt ws).map S).map V.str) = [V.str (S w0)] := by rw [e]
      rw [eg, h0]; exact kp2 p1 _ upd_same
    · refine q w0 ws p3 _ ew (k4.new' hp3) ?_
      rw [eg]; exact upd_same
end
end Pd

set_option maxHeartbeats 4000000
namespace Pd
open PySem PySem.Spec PyProof.Rows L2 SX
theorem cut_none {u : List (List Nat)} (h : gCut cutW u = none) : rd cutW u = none := by
  unfold rd
  rw [if_neg (by decide), if_neg (by decide)]
  match u, h with
  | [], _ => rfl
  | _ :: _ :: _, _ => rfl
  | [v], h =>
    show (if cutW = dropW then dropC v else if cutW = leadW then oneC .lead v else if cutW = onceW then oneC .once v else if cutW = cutW then cutC v else none) = none
    rw [if_neg (by decide), if_neg (by decide), if_neg (by decide), if_pos rfl]
    cases hq : cutC v with
    | none => rfl
    | some st =>
      obtain ⟨d, d1, d2, rfl, _⟩ := cutC_yes hq
      rw [gCut_mk ⟨d1, d2⟩] at h; cases h
theorem cut_some {d : Nat} (h : 49 ≤ d ∧ d ≤ 57) : (rd cutW [[d]]).isSome = true := by
  unfold rd
  rw [if_neg (by decide), if_neg (by decide)]
  show Option.isSome (if cutW = dropW then dropC [d] else if cutW = leadW then oneC .lead [d] else if cutW = onceW then oneC .once [d] else if cutW = cutW then cutC [d] else none) = true
  rw [if_neg (by decide), if_neg (by decide), if_neg (by decide), if_pos rfl]
  show Option.isSome (if 49 ≤ d ∧ d ≤ 57 then some (Stp.cut (d - 48)) else none) = true
  rw [if_pos h]; rfl
theorem sum_len {u : List (List Nat)} (h : ∀ v ∈ u, v.length ≤ 1000) (l : u.length ≤ 1000) : (((u.map S).map (·.length)).sum) ≤ 1000000 := by
  rw [sum_S]
  have := sum_le (m := 1000) h
  have h2 : u.length * 1000 ≤ 1000 * 1000 := Nat.mul_le_mul_right 1000 l
  omega
section
variable {P : Program} {w : World} {K : PySem.W.Frag} {mg : Str → Option Value} {base : Heap}
theorem ok_isStL {f : Addr} {fd : FuncData} (F : Fun K "_law_is_step" "_law_is_step" sLawIsStep f fd) (T : Nms mg) (ml : mg "list" = none) (GC : Cl P w K mg base 1 "_law_chars" spChars) : FnOk P w K mg base CX0 2 f fd ["step"] (spIsSt K) := by
  refine F.ok scLawIsStep (fun vs H Q E h => ?_) (fun cdv A outer s H vs Q E hr h => ?_)
  · obtain ⟨p, w0, u, rfl, _⟩ := h
    rfl
  · obtain ⟨p, w0, u, rfl, hp, hu, hul, q⟩ := h
    have nd := scLawIsStep.nd
    refine ⟨_, C8.pss_cut (ps_par (i := 1) (j := 2) (by rfl) nd rfl rfl (by decide) rfl rfl (pa_cons (pe_ix ix_tup (pv 0) pe_int (fun _ _ => rfl)) (pa_cons (pe_slice sl_tupA (pv 0) (po_some pe_int) po_none) pa_nil)) (by rfl))
      (C8.pss_cut (ps_if (pt_cmpR op_eq (pv 1) pe_str (nomark _)) (pss_one (ps_ret (pe_and (pe_cmpR op_eq (pe_callB call_len_seq (by rfl) T.len PySem.boot_len (pa_cons (pv 2) pa_nil)) pe_int (nomark _)) (pe_one (pe_callB call_isi (by rfl) T.isi (by decide +kernel) (pa_cons (pe_ix ix_tup (pv 2) pe_int (fun _ _ => rfl)) (pa_cons (pe_bltn (v := .ty "int") (by rfl) T.int (by decide +kernel) rfl) pa_nil))))))) pss_nil)
      (C8.pss_cut (ps_for PassesOwn.never rfl (pi_str (pe_join pe_str (pe_callTy call_list_of (by rfl) ml (by decide +kernel) (pa_cons (pv 2) pa_nil)))) (pg_name (i := 3) nd rfl (Or.inl rfl)) (pss_one (ps_if (pt_cmpR op_notIn_sign (pv 3) (pe_cl0 GC hr (by decide) rfl) rfl) (pss_one (ps_ret pe_bl)) pss_nil)))
      (C8.pss_cut (ps_if (PW.pt (pw_and (pt_cmpR op_eq (pv 1) pe_str (nomark _)) (pw_and1 (pt_cmpR op_eq (pe_callB call_len_seq (by rfl) T.len PySem.boot_len (pa_cons (pv 2) pa_nil)) pe_int (nomark _)))))
        (pss_one (ps_ret (pe_and (pe_chain op_lt op_lt pe_int (pe_callB call_len_str (by rfl) T.len PySem.boot_len (pa_cons (pe_ix ix_tup (pv 2) pe_int (fun _ _ => rfl)) pa_nil)) pe_int) (pe_one (pe_cmpR op_eq (pe_lenSetX rfl rfl T.len rfl T.set (pe_ix ix_tup (pv 2) pe_int (fun _ _ => rfl))) (pe_callB call_len_str (by rfl) T.len PySem.boot_len (pa_cons (pe_ix ix_tup (pv 2) pe_int (fun _ _ => rfl)) pa_nil)) (nomark _)))))) pss_nil)
      (C8.pss_cut (ps_setLc (i := 4) (own := [("one", 3)]) (g := gName 3) (tt := tYes) rfl nd rfl rfl (sw_true rfl rfl rfl (by decide +kernel)) (pi_tup (pv 2)) (blkOk_by (N := ["step", "word", "rest", "one", "sizes"]) (sc := defScope sLawIsStep) (by decide +kernel)) (fun _ _ _ _ _ => pg_name (i := 3) nd rfl (Or.inl rfl)) (fun _ _ _ _ _ => pts_nil)
        (fun _ _ _ _ _ => pe_callB call_len_str (by rfl) T.len PySem.boot_len (pa_cons (pv 3) pa_nil)))
      (C8.pss_cut (ps_if (pt_cmpR op_eq (pv 1) pe_str (nomark _)) (pss_one (ps_ret (pe_cmpR (op_eqD hr.units) (pv 4) (pe_lst (pa_cons pe_int (pa_cons pe_int pa_nil))) (nomark _)))) pss_nil)
      (C8.pss_cut (ps_if (PW.pt (pw_or (pt_cmpR op_eq (pv 1) pe_str (nomark _)) (pw_or1 (pt_cmpR op_eq (pv 1) pe_str (nomark _))))) (pss_one (ps_ret (pe_cmpR (op_eqD hr.units) (pv 4) (pe_lst (pa_cons pe_int pa_nil)) (nomark _)))) pss_nil)
      (pss_one (ps_ret (pe_and (pe_cmpR op_eq (pv 1) pe_str (nomark _)) (pe_one (pe_cmpR (op_eqD hr.units) (pv 4) (pe_lst pa_nil) (nomark _)))))))))))), ?_⟩
    obtain ⟨e1, e2, e3, e4, e5, e6⟩ := words_S
    cases hc : gCut w0 u with
    | some d =>
      obtain ⟨rfl, rfl, d1, d2⟩ := gCut_yes hc
      have eg : gVals cutW [[d]] = [.str "cut", .int ((d : Int) - 48)] := by unfold gVals; rw [hc]
      rw [eg] at hp
      refine ⟨fun σ' H' => ∃ r, σ' = [some (.ref p), some (.str "cut"), some (.ref r), none, none] ∧ SqT K H' r [.int ((d : Int) - 48)] ∧ Ext H H', ?_, ?_⟩
      · refine ⟨_, rfl, p, _, 0, _, rfl, rfl, hp, at0, _, rfl, 1, rfl, tailT (K := K) hp (by simp) fun r H1 k1 R1 => ⟨_, _, rfl, r, rfl, R1, k1⟩⟩
      rintro σ1 H1 ⟨r, rfl, R1, k1⟩
      refine ⟨fun _ _ => False, ?_, fun _ _ z => z.elim⟩
      refine ⟨_, rfl, rfl, _, rfl, iteT ?_⟩
      refine ⟨_, rfl, r, _, rfl, .inr R1, rfl, true, rfl, iteT ?_⟩
      refine ⟨_, rfl, r, _, 0, _, rfl, rfl, R1, at0, _, _, _, _, true, rfl, .ty "int", .base (.int _), kit_ty (by decide +kernel), ?_⟩
      have z := q H1 k1
      rw [cut_some ⟨d1, d2⟩] at z
      exact z
    | none =>
    have eg : gVals w0 u = .str (S w0) :: (u.map S).map V.str := by unfold gVals; rw [hc, List.map_map]; rfl
    rw [eg] at hp
    have ll : (((((u.map S).map V.str)).length : Nat) : Int) = (u.length : Nat) := by rw [List.length_map, List.length_map]
    refine ⟨fun σ' H' => ∃ r, σ' = [some (.ref p), some (.str (S w0)), some (.ref r), none, none] ∧ SqT K H' r ((u.map S).map V.str) ∧ Ext H H', ?_, ?_⟩
    · refine ⟨_, rfl, p, _, 0, _, rfl, rfl, hp, at0, _, rfl, 1, rfl, tailT (K := K) hp (by simp) fun r H1 k1 R1 => ⟨_, _, rfl, r, rfl, R1, k1⟩⟩
    rintro σ1 H1 ⟨r, rfl, R1, k1⟩
    have one : u.length = 1 → ∃ v, u = [v] := fun h => by
      match u, h with
      | [v], _ => exact ⟨v, rfl⟩
    have li : ∀ {n : Nat} {A B : Prop}, (u.length = n → A) → (u.length ≠ n → B) → if decide (V.int ((((u.map S).map V.str).length : Nat) : Int) = V.int (n : Nat)) = true then A else B := fun {n A B} a b => by
      rw [ll]
      by_cases h : u.length = n
      · rw [decide_eq_true (by rw [h])]; exact iteT (a h)
      · rw [decide_eq_false (fun z => h (by injection z with z; omega))]; exact iteF (b h)
    by_cases hw : w0 = cutW
    · subst hw
      have z := q
      rw [cut_none hc] at z
      refine ⟨fun _ _ => False, ?_, fun _ _ z => z.elim⟩
      refine ⟨_, rfl, rfl, _, rfl, ?_⟩
      rw [e6, decide_eq_true rfl]
      refine iteT ⟨_, rfl, r, _, rfl, .inr R1, rfl, _, rfl, li (n := 1) (fun h1 => ?_) (fun _ => z H1 k1)⟩
      obtain ⟨v, rfl⟩ := one h1
      exact ⟨_, rfl, r, _, 0, _, rfl, rfl, R1, at0, _, _, _, _, false, rfl, .ty "int", .base (.str _), kit_ty (by decide +kernel), z H1 k1⟩
    refine ⟨fun σ' H' => σ' = [some (.ref p), some (.str (S w0)), some (.ref r), none, none] ∧ H' = H1, ?_, ?_⟩
    · refine ⟨_, rfl, rfl, _, rfl, ?_⟩
      rw [e6, dec_S, decide_eq_false hw]
      exact iteF ⟨rfl, rfl⟩
    rintro σ2 H2 ⟨rfl, rfl⟩
    refine ⟨fun σ' H' => ∃ u3, σ' = [some (.ref p), some (.str (S w0)), some (.ref r), u3, none] ∧ Ext H2 H' ∧ (∀ v ∈ u, ∀ c ∈ v, c ∈ CH), ?_, ?_⟩
    · have hs := sum_len hu hul
      refine ⟨⟨_, rfl⟩, _, rfl, r, _, rfl, .inr R1, fun lp hlp => ?_⟩
      have kl : Ext H2 (L2.upd H2 lp (.lst ((u.map S).map V.str))) := Ext.refl.new hlp
      refine ⟨_, lp, u.map S, rfl, rfl, .inl (SqL.of upd_same), ?_, ?_⟩
      · show _ + _ * 0 ≤ _; omega
      have ej : Txt.join "" (u.map S) = S u.flatten := by
        rw [show ("" : Str) = S [] from by decide +kernel, join_S, joinL_nil]
      rw [ej]
      refine ⟨_, rfl, for_it (walk_str (z := S u.flatten)) (fun i σ H' => ∃ u3, σ = [some (.ref p), some (.str (S w0)), some (.ref r), u3, none] ∧ Ext H2 H' ∧ ∀ c ∈ u.flatten.take i, c ∈ CH) ⟨none, rfl, kl, by rw [List.take_zero]; exact fun _ h => nomatch h⟩ (fun _ _ _ _ _ => trivial) ?_ ?_⟩
      · rintro i y σ H3 H4 hi ⟨u3, rfl, k3, hch⟩ ⟨rfl, c, hcc, rfl⟩
        have hcc' : u.flatten[i]? = some c := by simpa [S] using hcc
        refine ⟨_, rfl, rfl, c, _, rfl, rfl, _, rfl, ?_⟩
        show if (!decide (c ∈ CH)) = true then _ else _
        by_cases hin : c ∈ CH
        · rw [decide_eq_true hin]
          refine iteF ⟨_, rfl, k3, fun d hd => ?_⟩
          rw [List.take_succ, hcc'] at hd
          rcases List.mem_append.mp hd with hd | hd
          · exact hch d hd
          · rw [List.mem_singleton.mp hd]; exact hin
        · rw [decide_eq_false hin]
          have z := q H4 (k1.trans k3)
          have : rd w0 u = none := by
            cases hq : rd w0 u with
            | none => rfl
            | some st =>
              obtain ⟨v, hv, hcv⟩ := List.mem_flatten.mp (List.mem_of_getElem? hcc')
              exact absurd (rd_chars hq hw v hv c hcv) hin
          rw [this] at z
          exact iteT z
      · rintro σ H3 ⟨u3, rfl, k3, hch⟩
        have e : (S u.flatten).cps.size = u.flatten.length := by simp [S]
        rw [e, List.take_length] at hch
        exact ⟨u3, rfl, k3, fun v hv c hcv => hch c (List.mem_flatten.mpr ⟨v, hv, hcv⟩)⟩
    rintro σ3 H3 ⟨u3, rfl, k3, hch⟩
    have k03 := k1.trans k3
    have R3 := sqT_keep R1 fun o e => k3 r o e
    have hz := sz_rd hw hch
    rw [hz] at q
    refine ⟨fun σ' H' => σ' = [some (.ref p), some (.str (S w0)), some (.ref r), u3, none] ∧ H' = H3 ∧ ¬ (w0 = dropW ∧ u.length = 1), ?_, ?_⟩
    · refine ⟨_, rfl, rfl, _, rfl, ?_⟩
      rw [e3, dec_S]
      by_cases hd : w0 = dropW
      case neg =>
        rw [decide_eq_false hd]
        exact iteF ⟨rfl, rfl, fun z => hd z.1⟩
      rw [decide_eq_true hd]
      refine iteT ⟨_, rfl, r, _, rfl, .inr R3, rfl, _, rfl, li (n := 1) (fun h1 => ?_) (fun h1 => ⟨rfl, rfl, fun z => h1 z.2⟩)⟩
      obtain ⟨v, rfl⟩ := one h1
      have hv := hu v (by simp)
      have ez : szB w0 [v] = (decide (1 ≤ v.length) && decide (v.length ≤ 10) && decide v.Nodup) := by
        unfold szB
        rw [if_pos ⟨hd, rfl⟩, List.all_cons, List.all_nil, Bool.and_true]
      rw [ez] at q
      refine ⟨_, rfl, r, _, 0, _, rfl, rfl, R3, at0, _, rfl, by rw [S_len, sizeLine_eq]; omega, _, _, rfl, rfl, _, rfl, ?_⟩
      rw [S_len]
      by_cases l1 : 1 ≤ v.length
      case neg =>
        rw [decide_eq_false (show ¬ (0 : Int) < (v.length : Nat) by omega)]
        rw [decide_eq_false l1, Bool.false_and, Bool.false_and] at q
        exact iteF ⟨false, rfl, iteF (q H3 k03)⟩
      rw [decide_eq_true (show (0 : Int) < (v.length : Nat) by omega)]
      refine iteT ⟨_, _, rfl, rfl, _, rfl, ?_⟩
      by_cases l2 : v.length ≤ 10
      case neg =>
        rw [decide_eq_false (show ¬ ((v.length : Nat) : Int) < 11 by omega)]
        rw [decide_eq_false l2, Bool.and_false, Bool.false_and] at q
        exact iteF (q H3 k03)
      rw [decide_eq_true (show ((v.length : Nat) : Int) < 11 by omega)]
      rw [decide_eq_true l1, decide_eq_true l2, Bool.true_and, Bool.true_and] at q
      refine iteT ⟨_, rfl, r, _, 0, _, rfl, rfl, R3, at0, S v, rfl, by show v.length ≤ 1000; omega, _, rfl, r, _, 0, _, rfl, rfl, R3, at0, _, rfl, by rw [S_len, sizeLine_eq]; omega, rfl, ?_⟩
      rw [S_len]
      have ls : (sgnsOf (S v)).length = v.length := by unfold sgnsOf; rw [List.length_map]
      have key : decide (V.int ((metS (sgnsOf (S v)) (sgnsOf (S v)).length).length : Nat) = V.int ((v.length : Nat) : Int)) = decide v.Nodup := by
        refine decide_eq_decide.mpr ⟨fun z => ?_, fun z => ?_⟩
        · injection z with z
          have z' : (metS (sgnsOf (S v)) (sgnsOf (S v)).length).length = (sgnsOf (S v)).length := by omega
          have y := (metS_full (sgnsOf (S v)) _ (Nat.le_refl _)).mp z'
          rw [List.take_length] at y
          exact (nodup_sgns v).mp y
        · have y := (metS_full (sgnsOf (S v)) _ (Nat.le_refl _)).mpr (by rw [List.take_length]; exact (nodup_sgns v).mpr z)
          rw [y, ls]
      rw [key]
      exact q H3 k03
    rintro σ4 H4 ⟨rfl, rfl, nd1⟩
    have ez : szB w0 u = if w0 = swapW then decide (u.map (·.length) = [1, 1]) else if w0 = leadW ∨ w0 = onceW then decide (u.map (·.length) = [1]) else decide (w0 = lowW) && decide (u.map (·.length) = []) := by
      unfold szB; rw [if_neg nd1]
    rw [ez] at q
    refine ⟨fun σ' H' => ∃ z v3, σ' = [some (.ref p), some (.str (S w0)), some (.ref r), v3, some (.ref z)] ∧ H' z = some (.lst ((u.map (·.length)).map fun k : Nat => V.int (k : Nat))) ∧ Ext H4 H', ?_, ?_⟩
    · refine ⟨_, rfl, r, rfl, ⟨_, R3⟩, fun D hD => ?_⟩
      refine lc_it (walk_tup (xs := (u.map S).map V.str)) (fun i H' => H' D = some (.lst (((u.take i).map (·.length)).map fun k : Nat => V.int (k : Nat))) ∧ Ext H4 H') ⟨upd_same, Ext.refl.new hD⟩ (fun i H' _ z => sqT_keep R3 fun o e => z.2 r o e) ?_ ?_
      · rintro i y H5 H6 hi ⟨h5, k5⟩ ⟨rfl, hx⟩
        rw [List.getElem?_map, List.getElem?_map] at hx
        obtain ⟨z, hz, rfl⟩ := Option.map_eq_some_iff.mp hx
        obtain ⟨v, hv, rfl⟩ := Option.map_eq_some_iff.mp hz
        have hvl := hu v (List.mem_of_getElem? hv)
        refine ⟨rfl, _, rfl, _, rfl, by rw [S_len, sizeLine_eq]; omega, _, h5, ?_, ?_, fun b o e => ?_⟩
        · rw [List.length_map, List.length_map, List.length_take, sizeLine_eq]; omega
        · rw [upd_same, List.take_succ, hv, List.map_append, List.map_append, S_len]; rfl
        · rw [upd_ne (ne_of_none e hD)]; exact k5 b o e
      · rintro H5 ⟨h5, k5⟩
        rw [List.length_map, List.length_map, List.take_length] at h5
        exact ⟨D, _, rfl, h5, k5⟩
    rintro σ5 H5 ⟨z, v3, rfl, hz5, k5⟩
    have k05 := k03.trans k5
    have dz : ∀ {H' : Hp}, Ext H5 H' → Dp K H' (.ref z) (lenD u) := fun k => .lst (SqL.of (k z _ hz5)) (ints_dp' _)
    refine ⟨fun σ' H' => σ' = [some (.ref p), some (.str (S w0)), some (.ref r), v3, some (.ref z)] ∧ H' = H5 ∧ w0 ≠ swapW, ?_, ?_⟩
    · refine ⟨_, rfl, rfl, _, rfl, ?_⟩
      rw [e2, dec_S]
      by_cases hs : w0 = swapW
      · rw [decide_eq_true hs]
        rw [if_pos hs] at q
        refine iteT ⟨_, rfl, by show 2 ≤ sizeLine; decide, fun l2 hl2 => ?_⟩
        have kl : Ext H5 (L2.upd H5 l2 (.lst [.int 1, .int 1])) := Ext.refl.new hl2
        refine ⟨_, .list [.int 1, .int 1], dz kl, .lst (SqL.of upd_same) (.cons (.int 1) (.cons (.int 1) .nil)), ints_shape' _, by decide +kernel, ?_⟩
        rw [eqv_len2]
        exact q _ (k05.trans kl)
      · rw [decide_eq_false hs]
        exact iteF ⟨rfl, rfl, hs⟩
    rintro σ6 H6 ⟨rfl, rfl, ns⟩
    rw [if_neg ns] at q
    refine ⟨fun σ' H' => σ' = [some (.ref p), some (.str (S w0)), some (.ref r), v3, some (.ref z)] ∧ H' = H6 ∧ ¬ (w0 = leadW ∨ w0 = onceW), ?_, ?_⟩
    · have fin : (w0 = leadW ∨ w0 = onceW) → 1 ≤ sizeLine ∧ ∀ l2, H6 l2 = none → ∃ d e, Dp K (L2.upd H6 l2 (.lst [.int 1])) (.ref z) d ∧ Dp K (L2.upd H6 l2 (.lst [.int 1])) (.ref l2) e ∧ SeqAt.shaped d = true ∧ SeqAt.shaped e = true ∧ Q (.bl (PyData.eqv d e)) (L2.upd H6 l2 (.lst [.int 1])) := fun hs => by
        rw [if_pos hs] at q
        refine ⟨by decide, fun l2 hl2 => ?_⟩
        have kl : Ext H6 (L2.upd H6 l2 (.lst [.int 1])) := Ext.refl.new hl2
        refine ⟨_, .list [.int 1], dz kl, .lst (SqL.of upd_same) (.cons (.int 1) .nil), ints_shape' _, by decide +kernel, ?_⟩
        rw [eqv_len1]
        exact q _ (k05.trans kl)
      refine ⟨_, rfl, rfl, _, rfl, ?_⟩
      rw [e4, dec_S]
      by_cases h4 : w0 = leadW
      · rw [decide_eq_true h4]
        exact iteT (iteT ⟨_, rfl, fin (.inl h4)⟩)
      rw [decide_eq_false h4]
      refine iteF ⟨_, rfl, rfl, _, rfl, ?_⟩
      rw [e5, dec_S]
      by_cases h5 : w0 = onceW
      · rw [decide_eq_true h5]
        exact iteT ⟨_, rfl, fin (.inr h5)⟩
      rw [decide_eq_false h5]
      exact iteF ⟨rfl, rfl, fun z => z.elim h4 h5⟩
    rintro σ7 H7 ⟨rfl, rfl, n7⟩
    rw [if_neg n7] at q
    refine ⟨_, rfl, rfl, _, rfl, ?_⟩
    rw [e1, dec_S]
    by_cases h1 : w0 = lowW
    · rw [decide_eq_true h1]
      rw [decide_eq_true h1, Bool.true_and] at q
      refine iteT ⟨_, rfl, by show 0 ≤ sizeLine; decide, fun l2 hl2 => ?_⟩
      have kl : Ext H7 (L2.upd H7 l2 (.lst [])) := Ext.refl.new hl2
      refine ⟨_, .list [], dz kl, .lst (SqL.of upd_same) .nil, ints_shape' _, by decide +kernel, ?_⟩
      rw [eqv_len0]
      exact q _ (k05.trans kl)
    · rw [decide_eq_false h1]
      rw [decide_eq_false h1, Bool.false_and] at q
      exact iteF (q H7 k05)
end
end Pd

set_option maxHeartbeats 4000000
namespace Pd
open PySem PySem.Spec PyProof.Rows L2 SX
def DueAt (K : PySem.W.Frag) (H : Hp) (t : Addr) : Rn → Prop
  | .made sts => ∃ r, H t = some (.tup [.str "made", .ref r]) ∧ RowQ K H r sts
  | .part k => H t = some (.tup [.str "part", .int (k : Nat)])
  | .many => H t = some (.tup [.str "step", .int 6])
def spLRead (K : PySem.W.Frag) : Sp := fun vs H Q _ => ∃ x r, vs = [.str (S x)] ∧ x.length ≤ 1000 ∧ RdAt x r ∧ ∀ t H', Ext H H' → DueAt K H' t r → Q (.ref t) H'
/-- what it comes to, told by where the reading stops -/
theorem rn_part {x : List Nat} {r : Rn} {i : Nat} {y : List Nat} {sts : List Stp} (h : RdAt x r) (n : x ≠ plainL) (hy : (spl2 x)[i]? = some y) (hc : rdP y = none) (hr : Rds ((spl2 x).take i) sts) : r = .part i := by
  cases h with
  | plain h => exact absurd h n
  | good n h l =>
    obtain ⟨st, z⟩ := h.take hy
    rw [hc] at z; cases z
  | more n h l =>
    obtain ⟨st, z⟩ := h.take hy
    rw [hc] at z; cases z
  | @bad k sts' y' n h e b =>
    rcases Nat.lt_trichotomy i k with lt | rfl | gt
    · have : ((spl2 x).take k)[i]? = some y := by rw [List.getElem?_take_of_lt lt]; exact hy
      obtain ⟨st, z⟩ := h.take this
      rw [hc] at z; cases z
    · rfl
    · have : ((spl2 x).take i)[k]? = some y' := by rw [List.getElem?_take_of_lt gt]; exact e
      obtain ⟨st, z⟩ := hr.take this
      rw [b] at z; cases z
theorem rn_all {x : List Nat} {r : Rn} {sts : List Stp} (h : RdAt x r) (n : x ≠ plainL) (hr : Rds (spl2 x) sts) : r = if sts.length ≤ 6 then .made sts else .many := by
  have hu : ∀ {sts' : List Stp}, Rds (spl2 x) sts' → sts' = sts := fun {sts'} h => by
    have : sts'.map some = sts.map some := h.symm.trans hr
    exact (List.map_inj_right (fun a b e => Option.some.inj e)).mp this
  cases h with
  | plain h => exact absurd h n
  | good n h l => rw [← hu h, if_pos l]
  | bad n h e b =>
    obtain ⟨st, z⟩ := hr.take e
    rw [b] at z; cases z
  | more n h l => rw [← hu h, if_neg (by omega)]
section
variable {P : Program} {w : World} {K : PySem.W.Frag} {mg : Str → Option Value} {base : Heap}
theorem ok_lread {f : Addr} {fd : FuncData} (F : Fun K "_law_read" "_law_read" sLawRead f fd) (T : Nms mg) (GG : Cl P w K mg base 1 "_law_guess" spGuess) (GI : Cl P w K mg base 2 "_law_is_step" (spIsSt K)) (GP : Cl P w K mg base 1 "_law_part" spPartQ) : FnOk P w K mg base CX0 3 f fd ["page"] (spLRead K) := by
  refine F.ok scLawRead (fun vs H Q E h => ?_) (fun cdv A outer s H vs Q E hr h => ?_)
  · obtain ⟨x, r, rfl, _⟩ := h
    rfl
  · obtain ⟨x, r, rfl, hl, hrd, q⟩ := h
    have nd := scLawRead.nd
    refine ⟨_, C8.pss_cut (ps_if (pt_cmpR op_eq (pv 0) pe_str (nomark _)) (pss_one (ps_ret (pe_tup (pa_cons pe_str (pa_cons (pe_tup pa_nil) pa_nil))))) pss_nil)
      (C8.pss_cut (ps_par (i := 1) (j := 2) (by rfl) nd rfl rfl (by decide) rfl rfl (pa_cons (pe_split (pv 0) pe_str) (pa_cons (pe_lst pa_nil) pa_nil)) (by rfl))
      (pss_cons (ps_for PassesOwn.never rfl (pi_range1 rfl T.range (pa_cons (pe_callB call_len_seq (by rfl) T.len PySem.boot_len (pa_cons (pv 1) pa_nil)) pa_nil)) (pg_name (i := 3) nd rfl (Or.inl rfl))
        (pss_cons (ps_set (i := 4) nd rfl (Or.inl rfl) (pe_cl GG hr (by decide) rfl (pa_cons (pe_ix ix_list (pv 1) (pv 3) (fun _ _ => rfl)) pa_nil)))
        (pss_cons (ps_if (PW.pt (pw_or (pt_not (pt_val (pe_cl GI hr (by decide) rfl (pa_cons (pv 4) pa_nil)))) (pw_or1 (pt_cmpR op_ne (pe_cl GP hr (by decide) rfl (pa_cons (pv 4) pa_nil)) (pe_ix ix_list (pv 1) (pv 3) (fun _ _ => rfl)) (nomark _)))))
            (pss_one (ps_ret (pe_tup (pa_cons pe_str (pa_cons (pv 3) pa_nil))))) pss_nil)
        (pss_one (ps_expr (pe_bm PySem.F.plainAttrs_list PySem.F.slot_list_append PySem.F.type_list_append mt_append (pv 2) (pa_cons (pv 4) pa_nil)))))))
      (pss_one (ps_ret (pe_ifExp (pt_cmpR op_lt (pe_callB call_len_seq (by rfl) T.len PySem.boot_len (pa_cons (pv 2) pa_nil)) pe_int (nomark _)) (pe_tup (pa_cons pe_str (pa_cons (pe_callTy call_tuple_of (by rfl) T.tuple (by decide +kernel) (pa_cons (pv 2) pa_nil)) pa_nil))) (pe_tup (pa_cons pe_str (pa_cons pe_int pa_nil)))))))), ?_⟩
    refine ⟨fun σ' H' => x ≠ plainL ∧ σ' = [some (.str (S x)), none, none, none, none] ∧ H' = H, ?_, ?_⟩
    · refine ⟨_, rfl, rfl, _, rfl, ?_⟩
      rw [plain_S, dec_S]
      by_cases hp : x = plainL
      · rw [decide_eq_true hp]
        have er : r = .made [] := by
          cases hrd with
          | plain h => rfl
          | good n h l => exact absurd hp n
          | bad n h e b => exact absurd hp n
          | more n h l => exact absurd hp n
        subst er
        refine iteT ⟨by show 0 ≤ sizeLine; decide, fun t1 ht1 => ⟨by show 2 ≤ sizeLine; decide, fun t2 ht2 => ?_⟩⟩
        have k1 : Ext H (L2.upd H t1 (.tup [])) := Ext.refl.new ht1
        have k2 : Ext (L2.upd H t1 (.tup [])) (L2.upd (L2.upd H t1 (.tup [])) t2 (.tup [.str "made", .ref t1])) := Ext.refl.new ht2
        exact q t2 _ (k1.trans k2) ⟨t1, upd_same, [], SqT.of (k2 t1 _ upd_same), .nil⟩
      · rw [decide_eq_false hp]
        exact iteF ⟨hp, rfl, rfl⟩
    rintro σ1 H1 ⟨hp, rfl, rfl⟩
    refine ⟨fun σ' H' => ∃ pl st, σ' = [some (.str (S x)), some (.ref pl), some (.ref st), none, none] ∧ H' pl = some (.lst (((spl2 x).map S).map V.str)) ∧ H' st = some (.lst []) ∧ H1 st = none ∧ H1 pl = none ∧ Ext H1 H', ?_, ?_⟩
    · refine ⟨_, rfl, ⟨_, rfl⟩, _, _, rfl, rfl, by decide +kernel, by rw [S_len, sizeLine_eq]; omega, fun pl hpl => ⟨by show 0 ≤ sizeLine; decide, fun st hst => ⟨_, _, rfl, pl, st, rfl, ?_, upd_same, ?_, hpl, ?_⟩⟩⟩
      · rw [upd_ne (show pl ≠ st from fun z => by rw [← z, upd_same] at hst; cases hst), upd_same, splS2]
      · cases z : H1 st with
        | none => rfl
        | some o => rw [upd_ne (ne_of_none z hpl), z] at hst; cases hst
      · exact (Ext.refl.new hpl).new' hst
    rintro σ2 H2 ⟨pl, st, rfl, h2p, h2s, hst, hpl, k2⟩
    have npl : st ≠ pl := fun z => by rw [z, h2p] at h2s; cases hh : spl2 x with
      | nil => exact spl_acc x [] hh
      | cons a r => rw [hh] at h2s; cases h2s
    obtain ⟨pls, pln⟩ := p_len (x := x)
    have xsl : (((((spl2 x).map S).map V.str).length : Nat) : Int) = ((spl2 x).length : Nat) := by rw [List.length_map, List.length_map]
    refine ⟨_, rfl, pl, _, rfl, .inl (SqL.of h2p), _, rfl, by rw [xsl]; omega, by rw [xsl]; omega, ?_⟩
    rw [xsl]
    refine for_range (lo := 0) (n := (((spl2 x).length : Nat) : Int).toNat) (fun i σ H' => ∃ u3 u4 ps sts, σ = [some (.str (S x)), some (.ref pl), some (.ref st), u3, u4] ∧ H' st = some (.lst (ps.map V.ref)) ∧ H' pl = some (.lst (((spl2 x).map S).map V.str)) ∧ AlQ H' ps sts ∧ Rds ((spl2 x).take i) sts ∧ Ext H1 H') ⟨none, none, [], [], rfl, h2s, h2p, .nil, rfl, k2⟩ ?_ ?_
    · rintro i σ H3 hi ⟨u3, u4, ps, sts, rfl, h1, h2, al, hrds, k3⟩
      have hil : i < (spl2 x).length := by omega
      obtain ⟨y, hy⟩ : ∃ y, (spl2 x)[i]? = some y := ⟨_, List.getElem?_eq_getElem hil⟩
      have hyl : y.length ≤ 1000 := Nat.le_trans (pls y (List.mem_of_getElem? hy)) hl
      have hat : atI (((spl2 x).map S).map V.str) ((i : Nat) : Int) = some (.str (S y)) := atI_nat (by rw [List.getElem?_map, List.getElem?_map, hy]; rfl)
      show gName 3 (V.int (0 + (i : Nat))) _ _ _
      rw [Int.zero_add]
      refine ⟨_, rfl, _, rfl, pl, _, _, _, rfl, rfl, SqL.of h2, hat, y, rfl, hyl, fun w0 ws p H4 ew k4 hp4 => ?_⟩
      have erd : rdP y = rd w0 (unt ws) := by unfold rdP; rw [ew]; rfl
      obtain ⟨wl, wn⟩ := w_len (x := y)
      rw [ew] at wl wn
      rw [List.length_cons] at wn
      have hun : ∀ v ∈ unt ws, v.length ≤ 1000 := fun v hv => by
        unfold unt at hv
        obtain ⟨u, hu, rfl⟩ := List.mem_map.mp hv
        rw [List.length_map]; exact Nat.le_trans (wl u (List.mem_cons_of_mem _ hu)) hyl
      have hunl : (unt ws).length ≤ 1000 := by unfold unt; rw [List.length_map]; omega
      refine ⟨_, rfl, p, w0, unt ws, rfl, SqT.of hp4, hun, hunl, fun H5 k5 => ⟨_, rfl, ?_⟩⟩
      have k35 := k4.trans k5
      rw [← erd]
      cases hc : rdP y with
      | none =>
        have er := rn_part hrd hp hy hc hrds
        subst er
        refine iteT (iteT ⟨_, rfl, by show 2 ≤ sizeLine; decide, fun t ht => ?_⟩)
        exact q t _ ((k3.trans k35).new' ht) upd_same
      | some s0 =>
        obtain ⟨ok, ev⟩ := rd_yes (by rw [← erd]; exact hc)
        have hq : StQ H5 p s0 := .inl (by rw [k5 p _ hp4, g_yes (by rw [← erd]; exact hc)])
        refine iteF ⟨_, rfl, p, s0, rfl, hq, ok, fun H6 k6 => ?_⟩
        have k36 := k35.trans k6
        refine ⟨_, rfl, _, rfl, pl, _, _, _, rfl, rfl, SqL.of (k36 pl _ h2), hat, rfl, _, rfl, ?_⟩
        rw [rdP_part hc, decide_eq_true rfl]
        refine iteF ?_
        have h6 := k36 st _ h1
        refine ⟨_, rfl, .inl ⟨rfl, _, SqL.of h6⟩, _, rfl, st, _, _, rfl, rfl, h6, ?_, ?_⟩
        · have := al.len
          have := hrds.len
          rw [List.length_take] at this
          rw [List.length_map, sizeLine_eq]; omega
        refine ⟨_, _, ps ++ [p], sts ++ [s0], rfl, by rw [upd_same, List.map_append]; rfl, ?_, ((al.ext k36).snoc (hq.ext k6) ok).ups h6, ?_, fun b o e => ?_⟩
        · rw [upd_ne npl.symm]; exact k36 pl _ h2
        · rw [List.take_succ, hy]; exact hrds.snoc hc
        · rw [upd_ne (ne_of_none e hst)]; exact k36 b o (k3 b o e)
    · rintro σ H3 ⟨u3, u4, ps, sts, rfl, h1, h2, al, hrds, k3⟩
      have e0 : ((((spl2 x).length : Nat) : Int).toNat) = (spl2 x).length := by omega
      rw [e0, List.take_length] at hrds
      have er := rn_all hrd hp hrds
      have ll := al.len
      refine ⟨_, rfl, st, _, rfl, .inl (SqL.of h1), _, _, rfl, rfl, _, rfl, ?_⟩
      rw [List.length_map, ll]
      by_cases h7 : sts.length ≤ 6
      · rw [if_pos h7] at er
        subst er
        rw [decide_eq_true (show ((sts.length : Nat) : Int) < 7 by omega)]
        refine iteT ⟨_, rfl, st, _, rfl, .inl ⟨SqL.of h1, fun tl htl => ⟨by show 2 ≤ sizeLine; decide, fun t ht => ?_⟩⟩⟩
        have kt : Ext H3 (L2.upd H3 tl (.tup (ps.map V.ref))) := Ext.refl.new htl
        have kt2 : Ext (L2.upd H3 tl (.tup (ps.map V.ref))) (L2.upd (L2.upd H3 tl (.tup (ps.map V.ref))) t (.tup [.str "made", .ref tl])) := Ext.refl.new ht
        exact q t _ ((k3.trans kt).trans kt2) ⟨tl, upd_same, ps, SqT.of (kt2 tl _ upd_same), al.ext (kt.trans kt2)⟩
      · rw [if_neg h7] at er
        subst er
        rw [decide_eq_false (show ¬ ((sts.length : Nat) : Int) < 7 by omega)]
        exact iteF ⟨by show 2 ≤ sizeLine; decide, fun t ht => q t _ (k3.new' ht) upd_same⟩
end
end Pd

set_option maxHeartbeats 4000000
namespace Pd
open PySem PySem.Spec PyProof.Rows L2 SX
/-! ### drawn: texts that are spoilt -/
theorem at_in {xs : List V} {r : Int} (h0 : 0 ≤ r) (h1 : r < (xs.length : Nat)) : ∃ x ∈ xs, atI xs r = some x := by
  obtain ⟨m, rfl⟩ := Int.eq_ofNat_of_zero_le h0
  have hm : m < xs.length := by omega
  exact ⟨xs[m], List.getElem_mem hm, atI_nat (List.getElem?_eq_getElem hm)⟩
def smV : V → Bool
  | .str s => decide (s.cps.size ≤ 40)
  | _ => false
theorem smV_S (l : List Nat) : smV (.str (S l)) = decide (l.length ≤ 40) := by
  unfold smV S
  simp
theorem smV_str {v : V} (h : smV v = true) : ∃ l : List Nat, v = .str (S l) ∧ l.length ≤ 40 := by
  cases v with
  | str s =>
    refine ⟨s.cps.toList, rfl, ?_⟩
    rw [Array.length_toList]; exact of_decide_eq_true h
  | _ => cases h
/-- a list of m short texts -/
structure Lsh (j : Addr) (H : Hp) (a : Addr) (m : Nat) : Prop where
  ex : ∃ xs : List V, H a = some (.lst xs) ∧ xs.length = m ∧ xs.all smV = true
  nj : a ≠ j
theorem Lsh.cat {j fo lb : Addr} {H : Hp} {m m2 : Nat} {zs : List V} {Q : VK} (h : Lsh j H fo m) (g : Lsh j H lb m2) (hj : H j = some (.lst zs)) (hm : m + m2 ≤ 1000) (q : ∀ p H', Ext H H' → Lsh j H' p (m + m2) → Q (.ref p) H') : rCat (.ref fo) (.ref lb) H Q := by
  obtain ⟨xs, e, l, a⟩ := h.ex
  obtain ⟨ys, e2, l2, a2⟩ := g.ex
  refine ⟨fo, lb, xs, ys, rfl, rfl, e, e2, by rw [sizeLine_eq]; omega, fun p hp => ?_⟩
  refine q p _ (Ext.refl.new hp) ⟨⟨xs ++ ys, upd_same, by rw [List.length_append]; omega, by rw [List.all_append, a, a2]; rfl⟩, fun z => by rw [z, hj] at hp; cases hp⟩
theorem Lsh.ext {j a : Addr} {H H' : Hp} {m : Nat} (h : Lsh j H a m) (k : Ext H H') : Lsh j H' a m := by
  obtain ⟨xs, e, l, al⟩ := h.ex
  exact ⟨⟨xs, k a _ e, l, al⟩, h.nj⟩
def spEdit : Sp := fun vs H Q _ => ∃ (j : Addr) (n : Nat) (l : List Nat), vs = [.ref j, .str (S l)] ∧ JarAt H j n ∧ n + 10 < 1000000 ∧ l.length ≤ 5000 ∧ ∀ m H', m.length ≤ l.length + 1 → JarAt H' j (n + 10) → Kp j H H' → Q (.str (S m)) H'
def spNearP : Sp := fun vs H Q _ => ∃ (j : Addr) (n c : Nat), vs = [.ref j, .str (sg c)] ∧ JarAt H j n ∧ n + 10 < 1000000 ∧ ∀ m H', m.length ≤ 40 → JarAt H' j (n + 10) → Kp j H H' → Q (.str (S m)) H'
def SIGNS : List Nat := (" !\"#$&'()*+,-./0123456789:;<=>?@ABCDEFGHIJKLMNOPQRSTUVWXYZ[\\]^_`abcdefghijklmnopqrstuvwxyz{|}~\n\t" : Str).cps.toList
section
variable {P : Program} {w : World} {K : PySem.W.Frag} {mg : Str → Option Value} {base : Heap}
theorem ok_nearP {f : Addr} {fd : FuncData} (F : Fun K "_law_near_part" "_law_near_part" sLawNearPart f fd) (T : Nms mg) (D : Cl P w K mg base 1 "_law_draw" spDraw) : FnOk P w K mg base CX0 2 f fd ["well", "one"] spNearP := by
  refine F.ok scLawNearPart (fun vs H Q E h => ?_) (fun cdv A outer s H vs Q E hr h => ?_)
  · obtain ⟨j, n, c, rfl, _⟩ := h
    rfl
  · obtain ⟨j, n, c, rfl, hJ, hn, q⟩ := h
    have nd := scLawNearPart.nd
    refine ⟨_, C8.pss_cut (ps_set (i := 2) nd rfl (Or.inl rfl) (pe_lst (pa_cons pe_str (pa_cons pe_str (pa_cons pe_str (pa_cons pe_str (pa_cons pe_str (pa_cons pe_str (pa_cons pe_str (pa_cons (pe_op op_add_str pe_str (pv 1)) (pa_cons pe_str (pa_cons (pe_op op_add_str pe_str (pv 1)) pa_nil))))))))))))
      (C8.pss_cut (ps_set (i := 2) nd rfl (Or.inl rfl) (pe_op op_cat (pv 2) (pe_lst (pa_cons pe_str (pa_cons pe_str (pa_cons pe_str (pa_cons pe_str (pa_cons pe_str (pa_cons pe_str (pa_cons pe_str (pa_cons pe_str (pa_cons pe_str pa_nil))))))))))))
      (C8.pss_cut (ps_set (i := 2) nd rfl (Or.inl rfl) (pe_op op_cat (pv 2) (pe_lst (pa_cons pe_str (pa_cons pe_str (pa_cons pe_str (pa_cons pe_str (pa_cons pe_str (pa_cons pe_str (pa_cons pe_str (pa_cons pe_str pa_nil)))))))))))
      (C8.pss_cut (ps_set (i := 2) nd rfl (Or.inl rfl) (pe_op op_cat (pv 2) (pe_lst (pa_cons pe_str (pa_cons pe_str (pa_cons pe_str (pa_cons pe_str (pa_cons pe_str (pa_cons pe_str (pa_cons pe_str (pa_cons pe_str (pa_cons pe_str (pa_cons pe_str pa_nil)))))))))))))
      (C8.pss_cut (ps_set (i := 2) nd rfl (Or.inl rfl) (pe_op op_cat (pv 2) (pe_lst (pa_cons pe_str (pa_cons pe_str (pa_cons pe_str (pa_cons pe_str (pa_cons pe_str (pa_cons pe_str (pa_cons pe_str (pa_cons pe_str (pa_cons pe_str pa_nil))))))))))))
      (C8.pss_cut (ps_set (i := 2) nd rfl (Or.inl rfl) (pe_op op_cat (pv 2) (pe_lst (pa_cons pe_str (pa_cons pe_str (pa_cons pe_str (pa_cons pe_str (pa_cons pe_str (pa_cons pe_str pa_nil)))))))))
      (pss_one (ps_ret (pe_ix ix_list (pv 2) (pe_cl D hr (by decide) rfl (pa_cons (pv 0) (pa_cons (pe_callB call_len_seq (by rfl) T.len PySem.boot_len (pa_cons (pv 2) pa_nil)) pa_nil))) (fun _ _ => rfl))))))))), ?_⟩
    obtain ⟨xs0, hx0⟩ := hJ.lst
    refine ⟨fun σ' H' => ∃ a, σ' = [some (.ref j), some (.str (sg c)), some (.ref a)] ∧ Lsh j H' a 10 ∧ Ext H H', ?_, ?_⟩
    · have eL : ("lower " : Str) = S [108, 111, 119, 101, 114, 32] := by decide +kernel
      have eS : ("swap " : Str) = S [115, 119, 97, 112, 32] := by decide +kernel
      refine ⟨_, rfl, _, _, rfl, rfl, by rw [eL, S_len, sg_S, S_len, sizeLine_eq]; show 6 + 1 ≤ _; decide, ?_⟩
      refine ⟨_, rfl, _, _, rfl, rfl, by rw [eS, S_len, sg_S, S_len, sizeLine_eq]; show 5 + 1 ≤ _; decide, by show 10 ≤ sizeLine; decide, fun p hp => ?_⟩
      rw [eL, eS, sg_S, S_cat, S_cat]
      refine ⟨p, rfl, ⟨⟨_, upd_same, rfl, ?_⟩, fun z => by rw [z, hx0] at hp; cases hp⟩, Ext.refl.new hp⟩
      have a1 : smV (.str (S ([108, 111, 119, 101, 114, 32] ++ [c]))) = true := by rw [smV_S]; simp
      have a2 : smV (.str (S ([115, 119, 97, 112, 32] ++ [c]))) = true := by rw [smV_S]; simp
      have a3 : smV (.str "") = true ∧ smV (.str " ") = true ∧ smV (.str "plain") = true ∧ smV (.str "Lower") = true ∧ smV (.str " lower") = true ∧ smV (.str "lower lower") = true ∧ smV (.str "swap") = true := by decide +kernel
      have a4 : smV (.str (S [108, 111, 119, 101, 114, 32])) = true := by decide +kernel
      obtain ⟨b1, b2, b3, b4, b5, b6, b7⟩ := a3
      simp only [List.all_cons, List.all_nil, a1, a2, a4, b1, b2, b3, b4, b5, b6, b7, Bool.and_self]
    rintro σ1 H1 ⟨a1, rfl, G1, k1⟩
    refine ⟨fun σ' H' => ∃ a, σ' = [some (.ref j), some (.str (sg c)), some (.ref a)] ∧ Lsh j H' a 19 ∧ Ext H H', ?_, ?_⟩
    · refine ⟨_, rfl, by show 9 ≤ sizeLine; decide, fun p hp => ?_⟩
      have kp : ∀ o, Ext H1 (L2.upd H1 p o) := fun o => Ext.refl.new hp
      refine (G1.ext (kp _)).cat (m2 := 9) ⟨⟨_, upd_same, rfl, by decide +kernel⟩, fun z => by rw [z, k1 j _ hx0] at hp; cases hp⟩ (kp _ j _ (k1 j _ hx0)) (by decide) fun r H' k G => ?_
      exact ⟨r, rfl, G, (k1.trans (kp _)).trans k⟩
    rintro σ2 H2 ⟨a2, rfl, G2, k2⟩
    refine ⟨fun σ' H' => ∃ a, σ' = [some (.ref j), some (.str (sg c)), some (.ref a)] ∧ Lsh j H' a 27 ∧ Ext H H', ?_, ?_⟩
    · refine ⟨_, rfl, by show 8 ≤ sizeLine; decide, fun p hp => ?_⟩
      have kp : ∀ o, Ext H2 (L2.upd H2 p o) := fun o => Ext.refl.new hp
      refine (G2.ext (kp _)).cat (m2 := 8) ⟨⟨_, upd_same, rfl, by decide +kernel⟩, fun z => by rw [z, k2 j _ hx0] at hp; cases hp⟩ (kp _ j _ (k2 j _ hx0)) (by decide) fun r H' k G => ?_
      exact ⟨r, rfl, G, (k2.trans (kp _)).trans k⟩
    rintro σ3 H3 ⟨a3, rfl, G3, k3⟩
    refine ⟨fun σ' H' => ∃ a, σ' = [some (.ref j), some (.str (sg c)), some (.ref a)] ∧ Lsh j H' a 37 ∧ Ext H H', ?_, ?_⟩
    · refine ⟨_, rfl, by show 10 ≤ sizeLine; decide, fun p hp => ?_⟩
      have kp : ∀ o, Ext H3 (L2.upd H3 p o) := fun o => Ext.refl.new hp
      refine (G3.ext (kp _)).cat (m2 := 10) ⟨⟨_, upd_same, rfl, by decide +kernel⟩, fun z => by rw [z, k3 j _ hx0] at hp; cases hp⟩ (kp _ j _ (k3 j _ hx0)) (by decide) fun r H' k G => ?_
      exact ⟨r, rfl, G, (k3.trans (kp _)).trans k⟩
    rintro σ4 H4 ⟨a4, rfl, G4, k4⟩
    refine ⟨fun σ' H' => ∃ a, σ' = [some (.ref j), some (.str (sg c)), some (.ref a)] ∧ Lsh j H' a 46 ∧ Ext H H', ?_, ?_⟩
    · refine ⟨_, rfl, by show 9 ≤ sizeLine; decide, fun p hp => ?_⟩
      have kp : ∀ o, Ext H4 (L2.upd H4 p o) := fun o => Ext.refl.new hp
      refine (G4.ext (kp _)).cat (m2 := 9) ⟨⟨_, upd_same, rfl, by decide +kernel⟩, fun z => by rw [z, k4 j _ hx0] at hp; cases hp⟩ (kp _ j _ (k4 j _ hx0)) (by decide) fun r H' k G => ?_
      exact ⟨r, rfl, G, (k4.trans (kp _)).trans k⟩
    rintro σ5 H5 ⟨a5, rfl, G5, k5⟩
    refine ⟨fun σ' H' => ∃ a, σ' = [some (.ref j), some (.str (sg c)), some (.ref a)] ∧ Lsh j H' a 52 ∧ Ext H H', ?_, ?_⟩
    · refine ⟨_, rfl, by show 6 ≤ sizeLine; decide, fun p hp => ?_⟩
      have kp : ∀ o, Ext H5 (L2.upd H5 p o) := fun o => Ext.refl.new hp
      refine (G5.ext (kp _)).cat (m2 := 6) ⟨⟨_, upd_same, rfl, by decide +kernel⟩, fun z => by rw [z, k5 j _ hx0] at hp; cases hp⟩ (kp _ j _ (k5 j _ hx0)) (by decide) fun r H' k G => ?_
      exact ⟨r, rfl, G, (k5.trans (kp _)).trans k⟩
    rintro σ6 H6 ⟨a6, rfl, G6, k6⟩
    obtain ⟨xs, e, l, al⟩ := G6.ex
    refine ⟨_, rfl, _, rfl, _, rfl, a6, _, rfl, .inl (SqL.of e), j, _, _, rfl, hJ.ext k6, by omega, by rw [l]; decide, by rw [l]; decide, fun r H' h0 h1 J' k' => ?_⟩
    obtain ⟨v, hv, ev⟩ := at_in (xs := xs) h0 h1
    obtain ⟨m, rfl, hm⟩ := smV_str (List.all_eq_true.mp al v hv)
    exact ⟨a6, _, r, _, rfl, rfl, SqL.of (k' a6 _ G6.nj e), ev, q m H' hm (J'.le (by omega)) (k6.kp.trans k')⟩
theorem ok_edit {f : Addr} {fd : FuncData} (F : Fun K "_law_edit" "_law_edit" sLawEdit f fd) (T : Nms mg) (D : Cl P w K mg base 1 "_law_draw" spDraw) : FnOk P w K mg base CX0 2 f fd ["well", "page"] spEdit := by
  refine F.ok scLawEdit (fun vs H Q E h => ?_) (fun cdv A outer s H vs Q E hr h => ?_)
  · obtain ⟨j, n, l, rfl, _⟩ := h
    rfl
  · obtain ⟨j, n, l, rfl, hJ, hn, hl, q⟩ := h
    have nd := scLawEdit.nd
    refine ⟨_, C8.pss_cut (ps_set (i := 2) nd rfl (Or.inl rfl) pe_str)
      (C8.pss_cut (ps_par (i := 3) (j := 4) (by rfl) nd rfl rfl (by decide) rfl rfl (pa_cons (pe_cl D hr (by decide) rfl (pa_cons (pv 0) (pa_cons pe_int pa_nil))) (pa_cons (pe_cl D hr (by decide) rfl (pa_cons (pv 0) (pa_cons (pe_op op_add (pe_callB call_len_str (by rfl) T.len PySem.boot_len (pa_cons (pv 1) pa_nil)) pe_int) pa_nil))) pa_nil)) (by rfl))
      (C8.pss_cut (ps_set (i := 5) nd rfl (Or.inl rfl) (pe_ix ix_str (pv 2) (pe_cl D hr (by decide) rfl (pa_cons (pv 0) (pa_cons (pe_callB call_len_str (by rfl) T.len PySem.boot_len (pa_cons (pv 2) pa_nil)) pa_nil))) (fun _ _ => rfl)))
      (C8.pss_cut (ps_if (pt_cmpR op_eq (pv 3) pe_int (nomark _)) (pss_one (ps_ret (pe_op op_add_str (pe_slice C8.sl_txt (pv 1) po_none (po_some (pv 4))) (pe_slice C8.sl_txt (pv 1) (po_some (pe_op op_add (pv 4) pe_int)) po_none)))) pss_nil)
      (C8.pss_cut (ps_if (pt_cmpR op_eq (pv 3) pe_int (nomark _)) (pss_one (ps_ret (pe_op op_add_str (pe_op op_add_str (pe_slice C8.sl_txt (pv 1) po_none (po_some (pv 4))) (pv 5)) (pe_slice C8.sl_txt (pv 1) (po_some (pe_op op_add (pv 4) pe_int)) po_none)))) pss_nil)
      (C8.pss_cut (ps_if (pt_cmpR op_eq (pv 3) pe_int (nomark _)) (pss_one (ps_set (i := 5) nd rfl (Or.inl rfl) (pe_ix ix_str pe_str (pe_cl D hr (by decide) rfl (pa_cons (pv 0) (pa_cons pe_int pa_nil))) (fun _ _ => rfl)))) pss_nil)
      (pss_one (ps_ret (pe_op op_add_str (pe_op op_add_str (pe_slice C8.sl_txt (pv 1) po_none (po_some (pv 4))) (pv 5)) (pe_slice C8.sl_txt (pv 1) (po_some (pv 4)) po_none))))))))), ?_⟩
    have st : ∀ {a b : Str}, a = b → ([some (V.ref j), some (V.str (S l)), some (V.str a), none, none, none] : L2.St) = [some (V.ref j), some (V.str (S l)), some (V.str b), none, none, none] := fun h => by rw [h]
    have sl : (S SIGNS).length = 96 := by decide +kernel
    have ln : SIGNS.length = 96 := by decide +kernel
    refine ⟨fun σ' H' => σ' = [some (.ref j), some (.str (S l)), some (.str (S SIGNS)), none, none, none] ∧ H' = H, ⟨st (by decide +kernel), rfl⟩, ?_⟩
    rintro σ1 H1 ⟨rfl, rfl⟩
    refine ⟨fun σ' H' => ∃ w a : Int, σ' = [some (.ref j), some (.str (S l)), some (.str (S SIGNS)), some (.int w), some (.int a), none] ∧ 0 ≤ a ∧ a ≤ (l.length : Nat) ∧ JarAt H' j (n + 2) ∧ Kp j H1 H', ?_, ?_⟩
    · refine ⟨_, rfl, j, 4, n, rfl, hJ, by omega, by decide, by decide, fun w H2 h0 h1 J2 k2 => ?_⟩
      refine ⟨_, rfl, _, rfl, _, rfl, by rw [S_len, sizeLine_eq]; omega, _, _, rfl, rfl, j, _, _, rfl, J2, by omega, by rw [S_len]; omega, by rw [S_len]; omega, fun a H3 h03 h13 J3 k3 => ?_⟩
      rw [S_len] at h13
      exact ⟨_, _, rfl, w, a, rfl, h03, by omega, J3, k2.trans k3⟩
    rintro σ2 H2 ⟨w, a, rfl, ha0, ha1, J2, k2⟩
    refine ⟨fun σ' H' => ∃ c, σ' = [some (.ref j), some (.str (S l)), some (.str (S SIGNS)), some (.int w), some (.int a), some (.str (S [c]))] ∧ JarAt H' j (n + 3) ∧ Kp j H1 H', ?_, ?_⟩
    · refine ⟨_, rfl, _, rfl, _, rfl, _, rfl, by rw [sl]; decide, j, _, _, rfl, J2, by omega, by rw [sl]; decide, by rw [sl]; decide, fun r H3 h0 h1 J3 k3 => ?_⟩
      rw [sl] at h1
      obtain ⟨m, rfl⟩ := Int.eq_ofNat_of_zero_le h0
      have hm : m < SIGNS.length := by omega
      exact ⟨S SIGNS, _, SIGNS[m], rfl, rfl, by rw [sl]; decide, atI_nat (List.getElem?_eq_getElem hm), ⟨SIGNS[m], rfl, J3, k2.trans k3⟩⟩
    rintro σ3 H3 ⟨c, rfl, J3, k3⟩
    have e1 : (l.take a.toNat).length ≤ l.length := by rw [List.length_take]; omega
    have sl2 : (S l).length ≤ sizeLine := by rw [S_len, sizeLine_eq]; omega
    refine ⟨fun σ' H' => σ' = [some (.ref j), some (.str (S l)), some (.str (S SIGNS)), some (.int w), some (.int a), some (.str (S [c]))] ∧ H' = H3, ?_, ?_⟩
    · refine ⟨_, rfl, rfl, _, rfl, ite2 (fun _ => ?_) (fun _ => ⟨rfl, rfl⟩)⟩
      refine ⟨_, rfl, _, rfl, _, rfl, _, rfl, sl2, ?_⟩
      rw [slice_to ha0]
      refine ⟨_, rfl, _, rfl, _, _, rfl, rfl, _, rfl, _, rfl, sl2, ?_⟩
      rw [slice_from (by omega)]
      refine ⟨_, _, rfl, rfl, by rw [S_len, S_len, sizeLine_eq, List.length_take, List.length_drop]; omega, ?_⟩
      rw [S_cat]
      exact q _ H3 (by rw [List.length_append, List.length_take, List.length_drop]; omega) (J3.le (by omega)) k3
    rintro σ4 H4 ⟨rfl, rfl⟩
    refine ⟨fun σ' H' => σ' = [some (.ref j), some (.str (S l)), some (.str (S SIGNS)), some (.int w), some (.int a), some (.str (S [c]))] ∧ H' = H4, ?_, ?_⟩
    · refine ⟨_, rfl, rfl, _, rfl, ite2 (fun _ => ?_) (fun _ => ⟨rfl, rfl⟩)⟩
      refine ⟨_, rfl, _, rfl, _, rfl, _, rfl, sl2, ?_⟩
      rw [slice_to ha0]
      refine ⟨_, rfl, _, _, rfl, rfl, by rw [S_len, S_len, sizeLine_eq, List.length_take]; simp; omega, ?_⟩
      rw [S_cat]
      refine ⟨_, rfl, _, rfl, _, _, rfl, rfl, _, rfl, _, rfl, sl2, ?_⟩
      rw [slice_from (by omega)]
      refine ⟨_, _, rfl, rfl, by rw [S_len, S_len, sizeLine_eq, List.length_append, List.length_take, List.length_drop]; simp; omega, ?_⟩
      rw [S_cat]
      exact q _ H4 (by rw [List.length_append, List.length_append, List.length_take, List.length_drop]; simp; omega) (J3.le (by omega)) k3
    rintro σ5 H5 ⟨rfl, rfl⟩
    refine ⟨fun σ' H' => ∃ c, σ' = [some (.ref j), some (.str (S l)), some (.str (S SIGNS)), some (.int w), some (.int a), some (.str (S [c]))] ∧ JarAt H' j (n + 4) ∧ Kp j H1 H', ?_, ?_⟩
    · refine ⟨_, rfl, rfl, _, rfl, ite2 (fun _ => ?_) (fun _ => ⟨c, rfl, J3.le (by omega), k3⟩)⟩
      refine ⟨_, rfl, j, 6, _, rfl, J3, by omega, by decide, by decide, fun r H6 h0 h1 J6 k6 => ?_⟩
      obtain ⟨m, rfl⟩ := Int.eq_ofNat_of_zero_le h0
      have e6 : (";~ a1-" : Str) = S [59, 126, 32, 97, 49, 45] := by decide +kernel
      have hm : m < ([59, 126, 32, 97, 49, 45] : List Nat).length := by show m < 6; omega
      refine ⟨_, _, ([59, 126, 32, 97, 49, 45] : List Nat)[m], rfl, rfl, by decide +kernel, ?_, ⟨_, rfl, J6, k3.trans k6⟩⟩
      rw [e6]; exact atI_nat (List.getElem?_eq_getElem hm)
    rintro σ6 H6 ⟨c, rfl, J6, k6⟩
    refine ⟨_, rfl, _, rfl, _, rfl, _, rfl, sl2, ?_⟩
    rw [slice_to ha0]
    refine ⟨_, rfl, _, _, rfl, rfl, by rw [S_len, S_len, sizeLine_eq, List.length_take]; simp; omega, ?_⟩
    rw [S_cat]
    refine ⟨_, rfl, _, rfl, _, rfl, _, rfl, sl2, ?_⟩
    rw [slice_from ha0]
    refine ⟨_, _, rfl, rfl, by rw [S_len, S_len, sizeLine_eq, List.length_append, List.length_take, List.length_drop]; simp; omega, ?_⟩
    rw [S_cat]
    exact q _ H6 (by rw [List.length_append, List.length_append, List.length_take, List.length_drop]; simp; omega) (J6.le (by omega)) k6
end
end Pd

set_option maxHeartbeats 4000000
namespace Pd
open PySem PySem.Spec PyProof.Rows L2 SX
/-- a list of texts -/
structure Txl (j : Addr) (H : Hp) (pl : Addr) (qs : List (List Nat)) : Prop where
  at_ : H pl = some (.lst ((qs.map S).map V.str))
  sz : ∀ q ∈ qs, q.length ≤ 2000
  nj : pl ≠ j
theorem Txl.kp {j pl : Addr} {H H' : Hp} {qs : List (List Nat)} (h : Txl j H pl qs) (k : Kp j H H') : Txl j H' pl qs := ⟨k pl _ h.nj h.at_, h.sz, h.nj⟩
def tvs (qs : List (List Nat)) : List V := (qs.map S).map V.str
theorem tvs_len (qs : List (List Nat)) : (tvs qs).length = qs.length := by unfold tvs; rw [List.length_map, List.length_map]
theorem tvs_app (a b : List (List Nat)) : tvs (a ++ b) = tvs a ++ tvs b := by unfold tvs; rw [List.map_append, List.map_append]
def spSpoilt : Sp := fun vs H Q _ => ∃ (j : Addr) (n : Nat) (po l : List Nat), vs = [.ref j, .str (S po), .str (S l)] ∧ JarAt H j n ∧ PoolOk po ∧ n + 500 < 1000000 ∧ l.length ≤ 1000 ∧ ∀ m H', m.length ≤ 3000000 → JarAt H' j (n + 500) → Kp j H H' → Q (.str (S m)) H'
section
variable {P : Program} {w : World} {K : PySem.W.Frag} {mg : Str → Option Value} {base : Heap}
theorem ok_spoilt {f : Addr} {fd : FuncData} (F : Fun K "_law_spoilt" "_law_spoilt" sLawSpoilt f fd) (T : Nms mg) (D : Cl P w K mg base 1 "_law_draw" spDraw) (GE : Cl P w K mg base 2 "_law_edit" spEdit) (GN : Cl P w K mg base 2 "_law_near_part" spNearP) (GS : Cl P w K mg base 3 "_law_step" spBstep) (GP : Cl P w K mg base 1 "_law_part" spPart) : FnOk P w K mg base CX0 4 f fd ["well", "pool", "page"] spSpoilt := by
  refine F.ok scLawSpoilt (fun vs H Q E h => ?_) (fun cdv A outer s H vs Q E hr h => ?_)
  · obtain ⟨j, n, po, l, rfl, _⟩ := h
    rfl
  · obtain ⟨j, n, po, l, rfl, hJ, hP, hn, hl, q⟩ := h
    have nd := scLawSpoilt.nd
    refine ⟨_, C8.pss_cut (ps_set (i := 3) nd rfl (Or.inl rfl) (pe_cl D hr (by decide) rfl (pa_cons (pv 0) (pa_cons pe_int pa_nil))))
      (C8.pss_cut (ps_if (pt_cmpR op_lt (pv 3) pe_int (nomark _)) (pss_one (ps_ret (pe_cl GE hr (by decide) rfl (pa_cons (pv 0) (pa_cons (pv 2) pa_nil))))) pss_nil)
      (C8.pss_cut (ps_set (i := 4) nd rfl (Or.inl rfl) (pe_split (pv 2) pe_str))
      (C8.pss_cut (ps_par (i := 5) (j := 6) (by rfl) nd rfl rfl (by decide) rfl rfl (pa_cons (pe_cl D hr (by decide) rfl (pa_cons (pv 0) (pa_cons (pe_callB call_len_seq (by rfl) T.len PySem.boot_len (pa_cons (pv 4) pa_nil)) pa_nil))) (pa_cons (pe_cl D hr (by decide) rfl (pa_cons (pv 0) (pa_cons (pe_callB call_len_seq (by rfl) T.len PySem.boot_len (pa_cons (pv 4) pa_nil)) pa_nil))) pa_nil)) (by rfl))
      (C8.pss_cut (ps_if (pt_cmpR op_lt (pv 3) pe_int (nomark _))
        (pss_one (ps_expr (pe_bm PySem.F.plainAttrs_list PySem.F.slot_list_insert PySem.F.type_list_insert mt_insert (pv 4) (pa_cons (pe_op op_add (pv 5) (pe_op op_mod (pe_callTy call_int1 (by rfl) T.int (by decide +kernel) (pa_cons (pv 6) pa_nil)) pe_int)) (pa_cons (pe_cl GN hr (by decide) rfl (pa_cons (pv 0) (pa_cons (pe_ix ix_str (pv 1) pe_int (fun _ _ => rfl)) pa_nil))) pa_nil)))))
        (pss_one (ps_if (pt_cmpR op_eq (pv 3) pe_int (nomark _))
          (pss_one (ps_expr (pe_bm PySem.F.plainAttrs_list PySem.F.slot_list_insert PySem.F.type_list_insert mt_insert (pv 4) (pa_cons (pv 5) (pa_cons (pe_ix ix_list (pv 4) (pv 6) (fun _ _ => rfl)) pa_nil)))))
          (pss_one (ps_if (PW.pt (pw_and (pt_cmpR op_eq (pv 3) pe_int (nomark _)) (pw_and1 (pt_cmpR op_gt (pe_callB call_len_seq (by rfl) T.len PySem.boot_len (pa_cons (pv 4) pa_nil)) pe_int (nomark _)))))
            (pss_one (ps_expr (pe_bm PySem.F.plainAttrs_list PySem.F.slot_list_pop PySem.F.type_list_pop mt_popAt (pv 4) (pa_cons (pv 5) pa_nil))))
            (pss_one (ps_for PassesOwn.never rfl (pi_range1 rfl T.range (pa_cons (pe_op op_add pe_int (pe_cl D hr (by decide) rfl (pa_cons (pv 0) (pa_cons pe_int pa_nil)))) pa_nil)) (pg_name (i := 7) nd rfl (Or.inl rfl))
              (pss_one (ps_expr (pe_bm PySem.F.plainAttrs_list PySem.F.slot_list_append PySem.F.type_list_append mt_append (pv 4) (pa_cons (pe_cl GP hr (by decide) rfl (pa_cons (pe_cl GS hr (by decide) rfl (pa_cons (pv 0) (pa_cons (pv 1) pa_nil))) pa_nil)) pa_nil)))))))))))
      (pss_one (ps_ret (pe_join pe_str (pv 4)))))))), ?_⟩
    obtain ⟨xs0, hx0⟩ := hJ.lst
    refine ⟨fun σ' H' => ∃ wy : Int, σ' = [some (.ref j), some (.str (S po)), some (.str (S l)), some (.int wy), none, none, none, none] ∧ JarAt H' j (n + 1) ∧ Kp j H H', ?_, ?_⟩
    · exact ⟨_, rfl, j, 10, n, rfl, hJ, by omega, by decide, by decide, fun r H1 h0 h1 J1 k1 => ⟨r, rfl, J1, k1⟩⟩
    rintro σ1 H1 ⟨wy, rfl, J1, k1⟩
    obtain ⟨xs1, hx1⟩ := J1.lst
    refine ⟨fun σ' H' => σ' = [some (.ref j), some (.str (S po)), some (.str (S l)), some (.int wy), none, none, none, none] ∧ H' = H1, ?_, ?_⟩
    · refine ⟨_, rfl, _, _, rfl, rfl, _, rfl, ite2 (fun _ => ?_) (fun _ => ⟨rfl, rfl⟩)⟩
      exact ⟨_, rfl, _, rfl, j, _, l, rfl, J1, by omega, by omega, fun m H2 hm J2 k2 => q m H2 (by omega) (J2.le (by omega)) (k1.trans k2)⟩
    rintro σ2 H2 ⟨rfl, rfl⟩
    obtain ⟨pls, pln⟩ := p_len (x := l)
    refine ⟨fun σ' H' => ∃ pl, σ' = [some (.ref j), some (.str (S po)), some (.str (S l)), some (.int wy), some (.ref pl), none, none, none] ∧ H' pl = some (.lst (tvs (spl2 l))) ∧ H2 pl = none ∧ Ext H2 H', ?_, ?_⟩
    · refine ⟨_, rfl, ⟨_, rfl⟩, _, _, rfl, rfl, by decide +kernel, by rw [S_len, sizeLine_eq]; omega, fun p hp => ⟨p, rfl, ?_, hp, Ext.refl.new hp⟩⟩
      rw [splS2]; exact upd_same
    rintro σ3 H3 ⟨pl, rfl, h3, hpl, k3⟩
    have npj : pl ≠ j := by rintro rfl; rw [hx1] at hpl; cases hpl
    have T3 : Txl j H3 pl (spl2 l) := ⟨h3, fun p hp => by have := pls p hp; omega, npj⟩
    have s1 : 1 ≤ (spl2 l).length := by
      cases hh : spl2 l with
      | nil => exact absurd hh (spl_acc l [])
      | cons a r => simp
    have ln : ∀ qs : List (List Nat), (((tvs qs).length : Nat) : Int) = (qs.length : Nat) := fun qs => by rw [tvs_len]
    refine ⟨fun σ' H' => ∃ sp ot : Int, σ' = [some (.ref j), some (.str (S po)), some (.str (S l)), some (.int wy), some (.ref pl), some (.int sp), some (.int ot), none] ∧ 0 ≤ sp ∧ sp < ((spl2 l).length : Nat) ∧ 0 ≤ ot ∧ ot < ((spl2 l).length : Nat) ∧ Txl j H' pl (spl2 l) ∧ JarAt H' j (n + 3) ∧ Kp j H2 H', ?_, ?_⟩
    · have J3 := J1.ext k3
      refine ⟨_, rfl, _, rfl, pl, _, rfl, .inl (SqL.of h3), j, _, _, rfl, J3, by omega, by rw [ln]; omega, by rw [ln]; omega, fun sp H4 h40 h41 J4 k4 => ?_⟩
      rw [ln] at h41
      have T4 := T3.kp k4
      refine ⟨_, rfl, _, rfl, pl, _, rfl, .inl (SqL.of T4.at_), j, _, _, rfl, J4, by omega, by rw [List.length_map, List.length_map]; omega, by rw [List.length_map, List.length_map]; omega, fun ot H5 h50 h51 J5 k5 => ?_⟩
      rw [List.length_map, List.length_map] at h51
      exact ⟨_, _, rfl, sp, ot, rfl, h40, h41, h50, h51, T4.kp k5, J5, k3.kp.trans (k4.trans k5)⟩
    rintro σ4 H4 ⟨sp, ot, rfl, sp0, sp1, ot0, ot1, T4, J4, k4⟩
    obtain ⟨sm, rfl⟩ := Int.eq_ofNat_of_zero_le sp0
    obtain ⟨om, rfl⟩ := Int.eq_ofNat_of_zero_le ot0
    have plH : H pl = none := by
      cases z : H pl with
      | none => rfl
      | some o => rw [k1 pl o npj z] at hpl; cases hpl
    have h4 : H4 pl = some (.lst (tvs (spl2 l))) := T4.at_
    obtain ⟨xs4, hx4⟩ := J4.lst
    refine ⟨fun σ' H' => ∃ qs u7, σ' = [some (.ref j), some (.str (S po)), some (.str (S l)), some (.int wy), some (.ref pl), some (.int (sm : Nat)), some (.int (om : Nat)), u7] ∧ Txl j H' pl qs ∧ qs.length ≤ 1100 ∧ JarAt H' j (n + 500) ∧ Kp j H H', ?_, ?_⟩
    · have k04 := k1.trans k4
      -- a text put in
      have ins : ∀ {H5 : Hp} {i : Int} {m : List Nat} {N : Nat}, 0 ≤ i → i < 2000 → H5 pl = some (.lst (tvs (spl2 l))) → m.length ≤ 2000 → JarAt H5 j N → N ≤ n + 500 → Kp j H H5 → ∃ (la : Addr) (xs : List V) (ix : Int) (y : V), V.ref pl = .ref la ∧ [V.int i, V.str (S m)] = [.int ix, y] ∧ H5 la = some (.lst xs) ∧ xs.length < sizeLine ∧ 0 ≤ ix ∧ ix < 2 ^ 63 ∧
          ∃ qs u7, ([some (.ref j), some (.str (S po)), some (.str (S l)), some (.int wy), some (.ref pl), some (.int (sm : Nat)), some (.int (om : Nat)), none] : L2.St) = [some (.ref j), some (.str (S po)), some (.str (S l)), some (.int wy), some (.ref pl), some (.int (sm : Nat)), some (.int (om : Nat)), u7] ∧ Txl j (L2.upd H5 la (.lst (xs.take ix.toNat ++ [y] ++ xs.drop ix.toNat))) pl qs ∧ qs.length ≤ 1100 ∧ JarAt (L2.upd H5 la (.lst (xs.take ix.toNat ++ [y] ++ xs.drop ix.toNat))) j (n + 500) ∧ Kp j H (L2.upd H5 la (.lst (xs.take ix.toNat ++ [y] ++ xs.drop ix.toNat))) := fun {H5 i m N} i0 i1 h5 hm J5 hN k5 => by
        refine ⟨pl, tvs (spl2 l), i, .str (S m), rfl, rfl, h5, by rw [tvs_len, sizeLine_eq]; omega, i0, by omega, (spl2 l).take i.toNat ++ [m] ++ (spl2 l).drop i.toNat, none, rfl, ⟨?_, fun p hp => ?_, npj⟩, ?_, (J5.kp (by rw [upd_ne npj.symm])).le hN, fun b o nb e => ?_⟩
        · rw [upd_same]
          show _ = some (HO.lst (tvs _))
          rw [tvs_app, tvs_app]
          unfold tvs
          rw [List.map_take, List.map_take, List.map_drop, List.map_drop]; rfl
        · rcases List.mem_append.mp hp with hp | hp
          · rcases List.mem_append.mp hp with hp | hp
            · have := pls p (List.mem_of_mem_take hp); omega
            · rw [List.mem_singleton.mp hp]; exact hm
          · have := pls p (List.mem_of_mem_drop hp); omega
        · rw [List.length_append, List.length_append, List.length_take, List.length_drop]
          show _ + 1 + _ ≤ 1100; omega
        · rw [upd_ne (ne_of_none e plH)]; exact k5 b o nb e
      refine ⟨_, rfl, _, _, rfl, rfl, _, rfl, ite2 (fun _ => ?_) (fun _ => ?_)⟩
      · obtain ⟨c, hc⟩ : ∃ c, po[0]? = some c := ⟨_, List.getElem?_eq_getElem (by rw [hP.1]; decide)⟩
        refine ⟨_, rfl, .inl ⟨rfl, _, SqL.of h4⟩, _, rfl, _, rfl, .inl ⟨_, rfl, _, _, rfl, rfl, (show (0 : Int) < 2 by decide), _, _, rfl, rfl, ?_⟩⟩
        refine ⟨_, rfl, _, rfl, S po, 0, c, rfl, rfl, by rw [S_len, hP.1, sizeLine_eq]; decide, atI_S hc, j, _, c, rfl, J4, by omega, fun m H5 hm J5 k5 => ?_⟩
        have h5 := k5 pl _ npj h4
        have := Int.emod_nonneg ((om : Nat) : Int) (show (2 : Int) ≠ 0 by decide)
        have := Int.emod_lt_of_pos ((om : Nat) : Int) (show (0 : Int) < 2 by decide)
        exact ins (by omega) (by omega) h5 (by omega) J5 (by omega) (k04.trans k5)
      · refine ⟨_, rfl, rfl, _, rfl, ite2 (fun _ => ?_) (fun _ => ?_)⟩
        · obtain ⟨m, hm⟩ : ∃ m, (spl2 l)[om]? = some m := ⟨_, List.getElem?_eq_getElem (by omega)⟩
          have hml := pls m (List.mem_of_getElem? hm)
          refine ⟨_, rfl, .inl ⟨rfl, _, SqL.of h4⟩, _, rfl, _, rfl, _, rfl, pl, _, _, .str (S m), rfl, rfl, SqL.of h4, atI_nat (by unfold tvs; rw [List.getElem?_map, List.getElem?_map, hm]; rfl), ?_⟩
          exact ins (by omega) (by omega) h4 (by omega) J4 (by omega) k04
        · refine ⟨_, rfl, rfl, _, rfl, ite2 (fun _ => ⟨_, rfl, pl, _, rfl, .inl (SqL.of h4), _, _, rfl, rfl, _, rfl, ite2 (fun hgt => ?pop) (fun _ => ?_)⟩) (fun _ => ?_)⟩
          case pop =>
            rw [tvs_len] at hgt
            have hgt' : (((spl2 l).length : Nat) : Int) > 1 := of_decide_eq_true hgt
            obtain ⟨m, hm⟩ : ∃ m, (spl2 l)[sm]? = some m := ⟨_, List.getElem?_eq_getElem (by omega)⟩
            refine ⟨_, rfl, .inl ⟨rfl, _, SqL.of h4⟩, _, rfl, pl, tvs (spl2 l), (sm : Nat), sm, .str (S m), rfl, rfl, h4, by omega, by omega, ?_, by unfold tvs; rw [List.getElem?_map, List.getElem?_map, hm]; rfl, ?_⟩
            · rw [tvs_len]
              unfold seqIndex?
              have e1 : ¬ ((sm : Nat) : Int) < 0 := by omega
              simp only [e1, if_false]
              rw [if_pos (by rw [Bool.and_eq_true]; exact ⟨decide_eq_true (by omega), decide_eq_true (by omega)⟩)]
              rfl
            refine ⟨(spl2 l).eraseIdx sm, none, rfl, ⟨?_, fun p hp => ?_, npj⟩, ?_, (J4.kp (by rw [upd_ne npj.symm])).le (by omega), fun b o nb e => ?_⟩
            · rw [upd_same]
              show _ = some (HO.lst (tvs _))
              unfold tvs
              rw [List.eraseIdx_eq_take_drop_succ, List.eraseIdx_eq_take_drop_succ, List.map_append, List.map_append, List.map_take, List.map_take, List.map_drop, List.map_drop]
            · have := pls p (List.mem_of_mem_eraseIdx hp); omega
            · have := List.length_eraseIdx_le (spl2 l) sm; omega
            · rw [upd_ne (ne_of_none e plH)]; exact k04 b o nb e
          all_goals
            refine ⟨_, rfl, j, 7, _, rfl, J4, by omega, by decide, by decide, fun r H5 h0 h1 J5 k5 => ⟨_, _, rfl, rfl, _, rfl, by omega, by omega, ?_⟩⟩
            refine for_range (lo := 0) (n := (1 + r).toNat) (fun i σ H' => ∃ qs u7, σ = [some (.ref j), some (.str (S po)), some (.str (S l)), some (.int wy), some (.ref pl), some (.int (sm : Nat)), some (.int (om : Nat)), u7] ∧ Txl j H' pl qs ∧ qs.length ≤ 1001 + i ∧ JarAt H' j (n + 4 + 50 * i) ∧ Kp j H H') ⟨spl2 l, none, rfl, T4.kp k5, by omega, J5.le (by omega), k04.trans k5⟩ ?_ ?_
            · rintro i σ H6 hi ⟨qs, u7, rfl, T6, hq, J6, k6⟩
              refine ⟨_, rfl, .inl ⟨rfl, _, SqL.of T6.at_⟩, _, rfl, _, rfl, j, _, po, rfl, J6, hP, by omega, fun p st H7 np ok hst J7 k7 => ?_⟩
              refine ⟨p, st, rfl, hst, ok, fun H8 k8 => ?_⟩
              have T8 := (T6.kp k7).kp k8.kp
              have pl33 := part_len ok
              refine ⟨pl, _, _, rfl, rfl, T8.at_, by rw [List.length_map, List.length_map, sizeLine_eq]; omega, ?_⟩
              refine ⟨qs ++ [partL st], _, rfl, ⟨by rw [upd_same, List.map_append, List.map_append]; rfl, fun x hx => ?_, npj⟩, by rw [List.length_append]; simp; omega, ((J7.ext k8).kp (by rw [upd_ne npj.symm])).le (by omega), fun b o nb e => ?_⟩
              · rcases List.mem_append.mp hx with hx | hx
                · exact T6.sz x hx
                · rw [List.mem_singleton.mp hx]; omega
              · rw [upd_ne (ne_of_none e plH)]; exact k8 b o (k7 b o nb (k6 b o nb e))
            · rintro σ H6 ⟨qs, u7, rfl, T6, hq, J6, k6⟩
              exact ⟨qs, u7, rfl, T6, by omega, J6.le (by omega), k6⟩
    rintro σ5 H5 ⟨qs, u7, rfl, T5, hq, J5, k5⟩
    have hs : ((qs.map S).map (·.length)).sum ≤ 1100 * 2000 := by
      rw [sum_S]
      have := sum_le (m := 2000) T5.sz
      have : qs.length * 2000 ≤ 1100 * 2000 := Nat.mul_le_mul_right 2000 hq
      omega
    refine ⟨⟨_, rfl⟩, _, rfl, _, pl, qs.map S, rfl, rfl, .inl (SqL.of T5.at_), ?_, ?_⟩
    · have e : ("; " : Str).length = 2 := by decide +kernel
      rw [e, List.length_map]; omega
    rw [semi_S, join_S]
    refine q _ H5 ?_ J5 k5
    have h1 := joinL_len [59, 32] qs
    rw [sum_S] at hs
    have : qs.length * ([59, 32] : List Nat).length ≤ 2200 := by show qs.length * 2 ≤ _; omega
    omega
end
end Pd

set_option maxHeartbeats 4000000
namespace Pd
open PySem PySem.Spec PyProof.Rows L2 SX
/-! ### the class Doors -/
def dflds (o1 o2 o3 o4 : Addr) : List (Str × V) := [("_put", .ref o1), ("_find", .ref o2), ("_strike", .ref o3), ("_wish", .ref o4)]
/-- doors at d, of four foldings -/
structure DrAt (K : PySem.W.Frag) (C CD : Addr) (H : Hp) (d : Addr) (o1 o2 o3 o4 r1 r2 r3 r4 : Addr) (s1 s2 s3 s4 : List Stp) : Prop where
  ins : ∃ dx, H d = some (.ins CD dx (dflds o1 o2 o3 o4))
  f1 : FoldAt K C H o1 r1 s1
  f2 : FoldAt K C H o2 r2 s2
  f3 : FoldAt K C H o3 r3 s3
  f4 : FoldAt K C H o4 r4 s4
section
variable {K : PySem.W.Frag} {C CD : Addr} {H H' : Hp} {d o1 o2 o3 o4 r1 r2 r3 r4 : Addr} {s1 s2 s3 s4 : List Stp}
theorem DrAt.ext (h : DrAt K C CD H d o1 o2 o3 o4 r1 r2 r3 r4 s1 s2 s3 s4) (k : Ext H H') : DrAt K C CD H' d o1 o2 o3 o4 r1 r2 r3 r4 s1 s2 s3 s4 := by
  obtain ⟨dx, e⟩ := h.ins
  exact ⟨⟨dx, k d _ e⟩, h.f1.ext k, h.f2.ext k, h.f3.ext k, h.f4.ext k⟩
theorem DrAt.kp {j : Addr} {xs : List V} (h : DrAt K C CD H d o1 o2 o3 o4 r1 r2 r3 r4 s1 s2 s3 s4) (k : Kp j H H') (hj : H j = some (.lst xs)) : DrAt K C CD H' d o1 o2 o3 o4 r1 r2 r3 r4 s1 s2 s3 s4 := by
  obtain ⟨dx, e⟩ := h.ins
  exact ⟨⟨dx, k d _ (by rintro rfl; rw [e] at hj; cases hj) e⟩, h.f1.kp k hj, h.f2.kp k hj, h.f3.kp k hj, h.f4.kp k hj⟩
end
structure Dcl (K : PySem.W.Frag) (mg : Str → Option Value) (CD : Addr) : Prop where
  cl : Cls K CD
  n1 : NoAttr K CD "_put"
  n2 : NoAttr K CD "_find"
  n3 : NoAttr K CD "_strike"
  n4 : NoAttr K CD "_wish"
  mgC : mg "Doors" = some (.ref CD)
def spDInit (CD : Addr) : Sp := fun vs H Q _ => ∃ (d dx o1 o2 o3 o4 : Addr), vs = [.ref d, .ref o1, .ref o2, .ref o3, .ref o4] ∧ H d = some (.ins CD dx []) ∧ Q .non (upd H d (.ins CD dx (dflds o1 o2 o3 o4)))
/-- a method that tells a field -/
def spDGet (CD : Addr) (f : Str) : Sp := fun vs H Q _ => ∃ (d dx : Addr) (fs : List (Str × V)) (v : V), vs = [.ref d] ∧ H d = some (.ins CD dx fs) ∧ fs.lookup f = some v ∧ Q v H
theorem upd_upd {H : Hp} {a : Addr} {o u : HO} : L2.upd (L2.upd H a o) a u = L2.upd H a u := by
  funext b
  by_cases h : b = a
  · subst h; rw [upd_same, upd_same]
  · rw [upd_ne h, upd_ne h, upd_ne h]
section
variable {P : Program} {w : World} {K : PySem.W.Frag} {mg : Str → Option Value} {base : Heap}
theorem ok_dinit {f CD : Addr} {fd : FuncData} (F : Fun K "__init__" "Doors.__init__" sDoorsInit f fd) (Z : Dcl K mg CD) : FnOk P w K mg base CX0 1 f fd ["self", "put", "find", "strike", "wish"] (spDInit CD) := by
  refine F.ok scDoorsInit (fun vs H Q E h => ?_) (fun cdv A outer s H vs Q E hr h => ?_)
  · obtain ⟨d, dx, o1, o2, o3, o4, rfl, _⟩ := h
    rfl
  · obtain ⟨d, dx, o1, o2, o3, o4, rfl, e, q⟩ := h
    refine ⟨_, pss_cons (ps_fld (pv 0) (pv 1) rfl) (pss_cons (ps_fld (pv 0) (pv 2) rfl) (pss_cons (ps_fld (pv 0) (pv 3) rfl) (pss_one (ps_fld (pv 0) (pv 4) rfl)))), ?_⟩
    refine ⟨_, rfl, _, rfl, d, CD, dx, _, rfl, e, Z.cl, Z.n1, by show 0 < 1000; decide, ?_⟩
    refine ⟨_, rfl, _, rfl, d, CD, dx, _, rfl, upd_same, Z.cl, Z.n2, by show 1 < 1000; decide, ?_⟩
    refine ⟨_, rfl, _, rfl, d, CD, dx, _, rfl, upd_same, Z.cl, Z.n3, by show 2 < 1000; decide, ?_⟩
    refine ⟨_, rfl, _, rfl, d, CD, dx, _, rfl, upd_same, Z.cl, Z.n4, by show 3 < 1000; decide, ?_⟩
    rw [upd_upd, upd_upd, upd_upd]
    exact q
theorem ok_dput {f CD : Addr} {fd : FuncData} (F : Fun K "put" "Doors.put" sDoorsPut f fd) (Z : Dcl K mg CD) : FnOk P w K mg base CX0 1 f fd ["self"] (spDGet CD "_put") := by
  refine F.ok scDoorsPut (fun vs H Q E h => ?_) (fun cdv A outer s H vs Q E hr h => ?_)
  · obtain ⟨d, dx, fs, v, rfl, _⟩ := h
    rfl
  · obtain ⟨d, dx, fs, v, rfl, e, l, q⟩ := h
    exact ⟨_, pss_one (ps_ret (pe_fld (pv 0) rfl)), _, rfl, d, CD, dx, _, _, rfl, e, Z.cl, Z.n1, l, q⟩
theorem ok_dfind {f CD : Addr} {fd : FuncData} (F : Fun K "find" "Doors.find" sDoorsFind f fd) (Z : Dcl K mg CD) : FnOk P w K mg base CX0 1 f fd ["self"] (spDGet CD "_find") := by
  refine F.ok scDoorsFind (fun vs H Q E h => ?_) (fun cdv A outer s H vs Q E hr h => ?_)
  · obtain ⟨d, dx, fs, v, rfl, _⟩ := h
    rfl
  · obtain ⟨d, dx, fs, v, rfl, e, l, q⟩ := h
    exact ⟨_, pss_one (ps_ret (pe_fld (pv 0) rfl)), _, rfl, d, CD, dx, _, _, rfl, e, Z.cl, Z.n2, l, q⟩
theorem ok_dstrike {f CD : Addr} {fd : FuncData} (F : Fun K "strike" "Doors.strike" sDoorsStrike f fd) (Z : Dcl K mg CD) : FnOk P w K mg base CX0 1 f fd ["self"] (spDGet CD "_strike") := by
  refine F.ok scDoorsStrike (fun vs H Q E h => ?_) (fun cdv A outer s H vs Q E hr h => ?_)
  · obtain ⟨d, dx, fs, v, rfl, _⟩ := h
    rfl
  · obtain ⟨d, dx, fs, v, rfl, e, l, q⟩ := h
    exact ⟨_, pss_one (ps_ret (pe_fld (pv 0) rfl)), _, rfl, d, CD, dx, _, _, rfl, e, Z.cl, Z.n3, l, q⟩
theorem ok_dwish {f CD : Addr} {fd : FuncData} (F : Fun K "wish" "Doors.wish" sDoorsWish f fd) (Z : Dcl K mg CD) : FnOk P w K mg base CX0 1 f fd ["self"] (spDGet CD "_wish") := by
  refine F.ok scDoorsWish (fun vs H Q E h => ?_) (fun cdv A outer s H vs Q E hr h => ?_)
  · obtain ⟨d, dx, fs, v, rfl, _⟩ := h
    rfl
  · obtain ⟨d, dx, fs, v, rfl, e, l, q⟩ := h
    exact ⟨_, pss_one (ps_ret (pe_fld (pv 0) rfl)), _, rfl, d, CD, dx, _, _, rfl, e, Z.cl, Z.n4, l, q⟩
end
/-- the class Doors: made by position; its four methods -/
structure Drs (P : Program) (w : World) (K : PySem.W.Frag) (mg : Str → Option Value) (base : Heap) (CD : Addr) : Prop where
  z : Dcl K mg CD
  made : ∃ (f : Addr) (fd : FuncData), Mk K CD f ∧ FnOk P w K mg base CX0 1 f fd ["self", "put", "find", "strike", "wish"] (spDInit CD) ∧ Binds K fd ["self", "put", "find", "strike", "wish"] []
  put : ∃ (g : Addr) (fd : FuncData), Meth K CD "put" g ∧ FnOk P w K mg base CX0 1 g fd ["self"] (spDGet CD "_put") ∧ Binds K fd ["self"] []
  find : ∃ (g : Addr) (fd : FuncData), Meth K CD "find" g ∧ FnOk P w K mg base CX0 1 g fd ["self"] (spDGet CD "_find") ∧ Binds K fd ["self"] []
  strike : ∃ (g : Addr) (fd : FuncData), Meth K CD "strike" g ∧ FnOk P w K mg base CX0 1 g fd ["self"] (spDGet CD "_strike") ∧ Binds K fd ["self"] []
  wish : ∃ (g : Addr) (fd : FuncData), Meth K CD "wish" g ∧ FnOk P w K mg base CX0 1 g fd ["self"] (spDGet CD "_wish") ∧ Binds K fd ["self"] []
/-- doors made of four foldings: what __init__ asks -/
theorem dmade_ask {K : PySem.W.Frag} {C CD : Addr} {H : Hp} {x dx o1 o2 o3 o4 r1 r2 r3 r4 : Addr} {s1 s2 s3 s4 : List Stp} {Q : VK} {E : XK} (f1 : FoldAt K C H o1 r1 s1) (f2 : FoldAt K C H o2 r2 s2) (f3 : FoldAt K C H o3 r3 s3) (f4 : FoldAt K C H o4 r4 s4)
    (hx : H x = none) (hdx : H dx = none) (ne : dx ≠ x) (q : ∀ H', DrAt K C CD H' x o1 o2 o3 o4 r1 r2 r3 r4 s1 s2 s3 s4 → Ext H H' → Q .non H') :
    spDInit CD [.ref x, .ref o1, .ref o2, .ref o3, .ref o4] (upd (upd H dx (.own x)) x (.ins CD dx [])) Q E := by
  have k : Ext H (upd (upd (upd H dx (.own x)) x (.ins CD dx [])) x (.ins CD dx (dflds o1 o2 o3 o4))) := fun b u e => by
    rw [upd_ne (ne_of_none e hx), upd_ne (ne_of_none e hx), upd_ne (ne_of_none e hdx)]; exact e
  exact ⟨x, dx, o1, o2, o3, o4, rfl, upd_same, q _ ⟨⟨dx, upd_same⟩, f1.ext k, f2.ext k, f3.ext k, f4.ext k⟩ k⟩
end Pd

set_option maxHeartbeats 4000000
namespace Pd
open PySem PySem.Spec PyProof.Rows L2 SX
/-- four rows, in a list of their own -/
def Four (K : PySem.W.Frag) (H : Hp) (l : Addr) (rs : List Addr) (rws : List (List Stp)) : Prop := H l = some (.lst (rs.map V.ref)) ∧ Rw K H rs rws ∧ rws.length = 4
def spBdoors (K : PySem.W.Frag) : Sp := fun vs H Q _ => ∃ (j : Addr) (n : Nat) (l : List Nat), vs = [.ref j, .str (S l)] ∧ JarAt H j n ∧ PoolOk l ∧ n + 3000 < 1000000 ∧
  ∀ p rs rws H', H p = none → Four K H' p rs rws → JarAt H' j (n + 3000) → Kp j H H' → Q (.ref p) H'
theorem row_drop' {K : PySem.W.Frag} {σ : L2.St} {H : Hp} {r : Addr} {sts : List Stp} {k : Int} {Q : VK} (hR : RowAt K H r sts) (h0 : 0 ≤ k) (q : ∀ r' H', Ext H H' → RowAt K H' r' (sts.drop k.toNat) → Q (.ref r') H') : tNoPart σ H fun u H3 => rSlA K (.ref r) (some k) u H3 Q := row_drop hR h0 q
theorem RowAt.ok {K : PySem.W.Frag} {H : Hp} {r : Addr} {sts : List Stp} (h : RowAt K H r sts) : ∀ st ∈ sts, st.ok := by
  obtain ⟨ps, _, al⟩ := h
  exact al.ok
section
variable {P : Program} {w : World} {K : PySem.W.Frag} {mg : Str → Option Value} {base : Heap}
theorem ok_bdoors {f : Addr} {fd : FuncData} (F : Fun K "_law_doors" "_law_doors" sLawDoors f fd) (T : Nms mg) (D : Cl P w K mg base 1 "_law_draw" spDraw) (G : Cl P w K mg base 3 "_law_step" spBstep) (G2 : Cl P w K mg base 4 "_law_steps" (spBrow K)) : FnOk P w K mg base CX0 5 f fd ["well", "pool"] (spBdoors K) := by
  refine F.ok scLawDoors (fun vs H Q E h => ?_) (fun cdv A outer s H vs Q E hr h => ?_)
  · obtain ⟨j, n, l, rfl, _⟩ := h
    rfl
  · obtain ⟨j, n, l, rfl, hJ, hG, hn, q⟩ := h
    have nd := scLawDoors.nd
    refine ⟨_, pss_cons (ps_par (i := 2) (j := 3) rfl nd rfl rfl (by decide) rfl rfl (pa_cons (pe_cl G2 hr (by decide) rfl (pa_cons (pv 0) (pa_cons (pv 1) pa_nil))) (pa_cons (pe_lst pa_nil) pa_nil)) (by rfl))
      (pss_cons (ps_for PassesOwn.never rfl (pi_range1 rfl T.range (pa_cons pe_int pa_nil)) (pg_name (i := 4) nd rfl (Or.inl rfl))
        (pss_cons (ps_par (i := 5) (j := 6) rfl nd rfl rfl (by decide) rfl rfl (pa_cons (pe_cl D hr (by decide) rfl (pa_cons (pv 0) (pa_cons pe_int pa_nil))) (pa_cons (pe_cl D hr (by decide) rfl (pa_cons (pv 0) (pa_cons (pe_op op_add (pe_callB call_len_seq (by rfl) T.len PySem.boot_len (pa_cons (pv 2) pa_nil)) pe_int) pa_nil))) pa_nil)) (by rfl))
        (pss_cons (ps_set (i := 7) nd rfl (Or.inl rfl) (pv 2))
        (C8.pss_cut (ps_if (pt_cmpR op_eq (pv 5) pe_int (nomark _))
            (pss_one (ps_set (i := 7) nd rfl (Or.inl rfl) (pe_op op_catA (pe_slice sl_tupA (pv 2) po_none (po_some (pv 6))) (pe_slice sl_tupA (pv 2) (po_some (pe_op op_add (pv 6) pe_int)) po_none))))
            (pss_one (ps_if (PW.pt (pw_and (pt_cmpR op_eq (pv 5) pe_int (nomark _)) (pw_and1 (pt_cmpR op_lt (pe_callB call_len_seq (by rfl) T.len PySem.boot_len (pa_cons (pv 2) pa_nil)) pe_int (nomark _)))))
              (pss_one (ps_set (i := 7) nd rfl (Or.inl rfl) (pe_op op_catA (pe_op op_catA (pe_slice sl_tupA (pv 2) po_none (po_some (pv 6))) (pe_tup (pa_cons (pe_cl G hr (by decide) rfl (pa_cons (pv 0) (pa_cons (pv 1) pa_nil))) pa_nil))) (pe_slice sl_tupA (pv 2) (po_some (pv 6)) po_none))))
              (pss_one (ps_if (pt_cmpR op_eq (pv 5) pe_int (nomark _)) (pss_one (ps_set (i := 7) nd rfl (Or.inl rfl) (pe_cl G2 hr (by decide) rfl (pa_cons (pv 0) (pa_cons (pv 1) pa_nil))))) pss_nil)))))
        (pss_one (ps_expr (pe_bm PySem.F.plainAttrs_list PySem.F.slot_list_append PySem.F.type_list_append mt_append (pv 3) (pa_cons (pv 7) pa_nil))))))))
      (pss_one (ps_ret (pv 3)))), ?_⟩
    obtain ⟨xs0, hx0⟩ := hJ.lst
    refine ⟨_, rfl, _, rfl, j, n, l, rfl, hJ, hG, by omega, fun r sts H1 nr h6 R1 J1 k1 => ⟨by show 0 ≤ sizeLine; decide, fun p hp => ⟨_, _, rfl, ?_⟩⟩⟩
    have kp1 : Kp j H (L2.upd H1 p (.lst [])) := k1.new hp
    have Rp := R1.ext (Ext.refl.new (o := .lst []) hp)
    have np : H p = none := k1.none hp ⟨_, hx0⟩ J1.lst
    obtain ⟨xs1, hx1⟩ := J1.lst
    have npj : p ≠ j := by rintro rfl; rw [hx1] at hp; cases hp
    refine ⟨4, rfl, by decide, by decide, ?_⟩
    refine for_range (lo := 0) (n := 4) (fun i σ H' => ∃ u4 u5 u6 u7 rs rws, σ = [some (.ref j), some (.str (S l)), some (.ref r), some (.ref p), u4, u5, u6, u7] ∧ H' p = some (.lst (rs.map V.ref)) ∧ Rw K H' rs rws ∧ rws.length = i ∧ RowAt K H' r sts ∧ JarAt H' j (n + 400 + 500 * i) ∧ Kp j H H')
      ⟨_, _, _, _, [], [], rfl, upd_same, .nil, rfl, Rp, J1.new hp, kp1⟩ ?_ ?_
    · rintro i σ H2 hi ⟨u4, u5, u6, u7, rs, rws, rfl, hp2, W2, hl2, R2, J2, k2⟩
      refine ⟨_, rfl, j, 7, _, rfl, J2, by omega, by decide, by decide, fun way H3 hw0 hw1 J3 k3 => ?_⟩
      obtain ⟨xs2, hx2⟩ := J2.lst
      have R3 := R2.kp k3 hx2
      obtain ⟨ps3, hq3, al3⟩ := id R3
      refine ⟨_, rfl, _, rfl, r, _, rfl, .inr hq3, _, _, rfl, rfl, j, _, _, rfl, J3, by omega, ?_, ?_, fun k H4 hk0 hk1 J4 k4 => ?_⟩
      · rw [List.length_map, al3.len]; omega
      · rw [List.length_map, al3.len]; omega
      obtain ⟨xs3, hx3⟩ := J3.lst
      obtain ⟨xs4, hx4⟩ := J4.lst
      have k34 := k3.trans k4
      have R4 := R3.kp k4 hx3
      have W4 := W2.kp hx2 k34
      have hp4 := k34 p _ npj hp2
      have k24 := k2.trans k34
      refine ⟨_, _, rfl, ?_⟩
      refine ⟨_, rfl, ?_⟩
      refine ⟨fun σ' H' => ∃ r' sts', σ' = [some (.ref j), some (.str (S l)), some (.ref r), some (.ref p), some (.int (0 + (i : Nat))), some (.int way), some (.int k), some (.ref r')] ∧ sts'.length ≤ 6 ∧ RowAt K H' r' sts' ∧ H' p = some (.lst (rs.map V.ref)) ∧ Rw K H' rs rws ∧ RowAt K H' r sts ∧ JarAt H' j (n + 400 + 500 * i + 500) ∧ Kp j H H', ?_, ?_⟩
      · refine ⟨_, rfl, rfl, _, rfl, ite2 (fun _ => ?_) (fun _ => ?_)⟩
        · refine ⟨_, rfl, _, rfl, k, rfl, row_take R4 hk0 fun r1 H5 k5 R5 => ?_⟩
          refine ⟨_, rfl, _, rfl, _, _, rfl, rfl, _, rfl, ?_⟩
          refine row_drop' (K := K) (R4.ext k5) (by omega) fun r2 H6 k6 R6 => ?_
          refine row_cat (R5.ext k6) R6 (by rw [List.length_take, List.length_drop]; omega) fun r3 H7 k7 R7 => ?_
          have k57 := (k5.trans k6).trans k7
          exact ⟨r3, _, rfl, by rw [List.length_append, List.length_take, List.length_drop]; omega, R7, k57 p _ hp4, W4.ext k57, R4.ext k57, (J4.ext k57).le (by omega), k24.trans k57.kp⟩
        · have fin : ∃ r' sts', ([some (.ref j), some (.str (S l)), some (.ref r), some (.ref p), some (.int (0 + (i : Nat))), some (.int way), some (.int k), some (.ref r)] : L2.St) = [some (.ref j), some (.str (S l)), some (.ref r), some (.ref p), some (.int (0 + (i : Nat))), some (.int way), some (.int k), some (.ref r')] ∧ sts'.length ≤ 6 ∧ RowAt K H4 r' sts' ∧ H4 p = some (.lst (rs.map V.ref)) ∧ Rw K H4 rs rws ∧ RowAt K H4 r sts ∧ JarAt H4 j (n + 400 + 500 * i + 500) ∧ Kp j H H4 :=
            ⟨r, sts, rfl, h6, R4, hp4, W4, R4, J4.le (by omega), k24⟩
          have six : way = 6 → _ := fun _ => trivial
          refine ⟨_, rfl, rfl, _, rfl, ?_⟩
          by_cases h5 : V.int way = V.int 5
          · rw [decide_eq_true h5]
            obtain ⟨ps4, hq4, al4⟩ := id R4
            refine iteT ⟨_, rfl, r, _, rfl, .inr hq4, _, _, rfl, rfl, _, rfl, ?_⟩
            rw [List.length_map, al4.len]
            by_cases hl6 : sts.length < 6
            · rw [decide_eq_true (show ((sts.length : Nat) : Int) < 6 by omega)]
              refine iteT ⟨_, rfl, _, rfl, k, rfl, row_take R4 hk0 fun r1 H5 k5 R5 => ?_⟩
              refine ⟨_, rfl, _, rfl, j, _, l, rfl, J4.ext k5, hG, by omega, fun s st H6 ns hok hst J6 k6 => ?_⟩
              refine ⟨by show 1 ≤ sizeLine; decide, fun t ht => ?_⟩
              have hx5 : H5 j = some (.lst xs4) := k5 j _ hx4
              have kt : Ext H6 (L2.upd H6 t (.tup [.ref s])) := Ext.refl.new ht
              have R7 : RowAt K (L2.upd H6 t (.tup [.ref s])) t [st] := ⟨[s], SqT.of upd_same, .cons (hst.ext kt) hok .nil⟩
              refine row_cat ((R5.kp k6 hx5).ext kt) R7 (by rw [List.length_take]; show _ + 1 ≤ 1000; omega) fun r3 H7 k7 R7' => ?_
              have R4' : RowAt K H7 r sts := (((R4.ext k5).kp k6 hx5).ext kt).ext k7
              refine ⟨_, rfl, _, rfl, k, rfl, ?_⟩
              refine row_drop' (K := K) R4' hk0 fun r4 H8 k8 R8 => ?_
              refine row_cat (R7'.ext k8) R8 (by rw [List.length_append, List.length_take, List.length_drop]; show _ + 1 + _ ≤ 1000; omega) fun r5 H9 k9 R9 => ?_
              have kk : Ext H6 H9 := (((kt.trans k7).trans k8).trans k9)
              refine ⟨r5, _, rfl, ?_, R9, kk p _ (k6 p _ npj (k5 p _ hp4)), (((W4.ext k5).kp hx5 k6).ext kk), (R4'.ext k8).ext k9, (J6.ext kk).le (by omega), ((k24.trans k5.kp).trans k6).trans kk.kp⟩
              rw [List.length_append, List.length_append, List.length_take, List.length_drop]
              show _ + 1 + _ ≤ 6
              omega
            · rw [decide_eq_false (show ¬ ((sts.length : Nat) : Int) < 6 by omega)]
              refine iteF ⟨_, rfl, rfl, _, rfl, ite2 (fun e => ?_) (fun _ => fin)⟩
              have e := of_decide_eq_true e
              rw [h5] at e
              exact absurd e (by decide +kernel)
          · rw [decide_eq_false h5]
            refine iteF (iteF ⟨_, rfl, rfl, _, rfl, ite2 (fun _ => ?_) (fun _ => fin)⟩)
            refine ⟨_, rfl, _, rfl, j, _, l, rfl, J4, hG, by omega, fun r5 sts5 H5 nr5 h65 R5 J5 k5 => ?_⟩
            exact ⟨r5, sts5, rfl, h65, R5, k5 p _ npj hp4, W4.kp hx4 k5, R4.kp k5 hx4, J5.le (by omega), k24.trans k5⟩
      · rintro σ' H5 ⟨r', sts', rfl, h6', R5, hp5, W5, Rr5, J5, k5⟩
        refine ⟨_, rfl, .inl ⟨rfl, _, SqL.of hp5⟩, _, rfl, p, _, _, rfl, rfl, hp5, by rw [List.length_map, W5.len, hl2, sizeLine_eq]; omega, ?_⟩
        have kq : Kp p H5 (L2.upd H5 p (.lst (rs.map V.ref ++ [.ref r']))) := .upd
        refine ⟨_, _, _, _, rs ++ [r'], rws ++ [sts'], rfl, ?_, Rw.snoc (R5.kp kq hp5) h6' (W5.kp hp5 kq), by rw [List.length_append, hl2]; rfl, Rr5.kp kq hp5, ?_, ?_⟩
        · rw [upd_same, List.map_append]; rfl
        · obtain ⟨a', b', c', e1, e2⟩ := J5.le (show n + 400 + 500 * i + 500 ≤ n + 400 + 500 * (i + 1) by omega)
          exact ⟨a', b', c', by rw [upd_ne npj.symm]; exact e1, e2⟩
        · intro b o nb hb
          have nbp : b ≠ p := by rintro rfl; rw [np] at hb; cases hb
          rw [upd_ne nbp]; exact k5 b o nb hb
    · rintro σ H2 ⟨u4, u5, u6, u7, rs, rws, rfl, hp2, W2, hl2, R2, J2, k2⟩
      exact ⟨_, rfl, q p rs rws H2 np ⟨hp2, W2, hl2⟩ (J2.le (by omega)) k2⟩
end
end Pd

set_option maxHeartbeats 4000000
namespace Pd
open PySem PySem.Spec PyProof.Rows L2 SX
/-! ### what is written of doors -/
def headsL : List (List Nat) := [[112, 117, 116, 58, 32], [102, 105, 110, 100, 58, 32], [115, 116, 114, 105, 107, 101, 58, 32], [119, 105, 115, 104, 58, 32]]
theorem heads_S : (["put: ", "find: ", "strike: ", "wish: "] : List Str) = headsL.map S := by decide +kernel
def dlines (rws : List (List Stp)) : List (List Nat) := List.zipWith (· ++ ·) headsL (rws.map ftext)
def dtext (rws : List (List Stp)) : List Nat := TL.joinL [10] (dlines rws)
theorem nl_S : ("\n" : Str) = S [10] := by decide +kernel
/-- the doors' constant -/
structure CstD (K : PySem.W.Frag) (mg : Str → Option Value) : Prop where
  heads : ∃ Bd : Addr, mg "BEGINNINGS" = some (.ref Bd) ∧ ∀ H : Hp, SqT K H Bd ((headsL.map S).map V.str)
theorem walk_zipT {K : PySem.W.Frag} {a b : Addr} {xs ys : List V} {n : Nat} (hn : n = min xs.length ys.length) : Walk (RZ.ItzT K a b) n (fun H => SqT K H a xs ∧ SqT K H b ys) (YPair (fun i => xs[i]?) (fun i => ys[i]?)) := by
  subst hn
  refine ⟨fun i _ hi q => ?_, fun _ q => ⟨xs, ys, q.1, q.2, by omega⟩, fun i H v H' _ q y => ?_⟩
  · have h1 : i < xs.length := by omega
    have h2 : i < ys.length := by omega
    exact ⟨xs, ys, xs[i], ys[i], q.1, q.2, by simp [h1], by simp [h2]⟩
  · obtain ⟨T, x, z, h1, h2, h3, h4, h5⟩ := y
    exact ⟨T, x, z, h1, h2, h3, h4 xs q.1, h5 ys q.2⟩
theorem lines_len {rws : List (List Stp)} (h : ∀ sts ∈ rws, (∀ st ∈ sts, st.ok) ∧ sts.length ≤ 6) : ∀ x ∈ dlines rws, x.length ≤ 308 := by
  intro x hx
  unfold dlines at hx
  obtain ⟨i, hi, e⟩ := List.getElem_of_mem hx
  rw [List.getElem_zipWith] at e
  subst e
  have h1 : ∀ y ∈ headsL, y.length ≤ 8 := by decide
  have hi2 : i < (rws.map ftext).length := by
    rw [List.length_zipWith] at hi
    omega
  have h2 : (rws.map ftext)[i].length ≤ 300 := by
    rw [List.getElem_map]
    obtain ⟨a, b⟩ := h _ (List.getElem_mem (by simpa using hi2))
    exact ftext_len a b
  rw [List.length_append]
  have h3 := h1 _ (List.getElem_mem (show i < headsL.length by rw [List.length_zipWith] at hi; omega))
  omega
theorem lines_few (rws : List (List Stp)) : (dlines rws).length ≤ 4 := by
  unfold dlines
  rw [List.length_zipWith]
  exact Nat.min_le_left _ _
theorem line_get {rws : List (List Stp)} {i : Nat} {hd : List Nat} {sts : List Stp} (h1 : headsL[i]? = some hd) (h2 : rws[i]? = some sts) : (dlines rws)[i]? = some (hd ++ ftext sts) := by
  unfold dlines
  rw [List.getElem?_zipWith, h1, List.getElem?_map, h2]
  rfl
theorem lines_sum {rws : List (List Stp)} (h : ∀ sts ∈ rws, (∀ st ∈ sts, st.ok) ∧ sts.length ≤ 6) : (((dlines rws).map S).map (·.length)).sum + ((dlines rws).map S).length * ("\n" : Str).length ≤ 16777216 := by
  rw [sum_S, List.length_map]
  have h1 := sum_le (lines_len h)
  have h2 := lines_few rws
  have e : ("\n" : Str).length = 1 := by decide +kernel
  rw [e]
  omega
/-- foldings one by one -/
inductive Fds (K : PySem.W.Frag) (C : Addr) (H : Hp) : List Addr → List Addr → List (List Stp) → Prop where
  | nil : Fds K C H [] [] []
  | cons {o r : Addr} {sts : List Stp} {os rs : List Addr} {rws : List (List Stp)} (f : FoldAt K C H o r sts) (t : Fds K C H os rs rws) : Fds K C H (o :: os) (r :: rs) (sts :: rws)
theorem Fds.ext {K : PySem.W.Frag} {C : Addr} {H H' : Hp} (k : Ext H H') : ∀ {os rs : List Addr} {rws : List (List Stp)}, Fds K C H os rs rws → Fds K C H' os rs rws
  | _, _, _, .nil => .nil
  | _, _, _, .cons f t => .cons (f.ext k) (t.ext k)
theorem Fds.get {K : PySem.W.Frag} {C : Addr} {H : Hp} : ∀ {os rs : List Addr} {rws : List (List Stp)} {i : Nat} {o : Addr}, Fds K C H os rs rws → os[i]? = some o → ∃ r sts, rs[i]? = some r ∧ rws[i]? = some sts ∧ FoldAt K C H o r sts
  | _, _, _, _, _, .nil, e => by simp at e
  | _, _, _, 0, _, .cons f t, e => by
    simp at e; subst e
    exact ⟨_, _, by simp, by simp, f⟩
  | _, _, _, i + 1, _, .cons f t, e => by
    obtain ⟨r, sts, e1, e2, h⟩ := t.get (i := i) (by simpa using e)
    exact ⟨r, sts, by simpa using e1, by simpa using e2, h⟩
theorem Fds.good {K : PySem.W.Frag} {C : Addr} {H : Hp} : ∀ {os rs : List Addr} {rws : List (List Stp)}, Fds K C H os rs rws → ∀ sts ∈ rws, (∀ st ∈ sts, st.ok) ∧ sts.length ≤ 6
  | _, _, _, .nil, _, h => nomatch h
  | _, _, _, .cons f t, sts, h => by
    rcases List.mem_cons.mp h with rfl | h
    · exact ⟨f.2.1.ok, f.2.2⟩
    · exact t.good sts h
theorem DrAt.fds {K : PySem.W.Frag} {C CD : Addr} {H : Hp} {d o1 o2 o3 o4 r1 r2 r3 r4 : Addr} {s1 s2 s3 s4 : List Stp} (h : DrAt K C CD H d o1 o2 o3 o4 r1 r2 r3 r4 s1 s2 s3 s4) : Fds K C H [o1, o2, o3, o4] [r1, r2, r3, r4] [s1, s2, s3, s4] :=
  .cons h.f1 (.cons h.f2 (.cons h.f3 (.cons h.f4 .nil)))
theorem Rw.good {K : PySem.W.Frag} {H : Hp} : ∀ {rs : List Addr} {rws : List (List Stp)}, Rw K H rs rws → ∀ sts ∈ rws, (∀ st ∈ sts, st.ok) ∧ sts.length ≤ 6
  | _, _, .nil, _, h => nomatch h
  | _, _, .cons h l t, sts, hs => by
    rcases List.mem_cons.mp hs with rfl | hs
    · exact ⟨h.ok, l⟩
    · exact t.good sts hs
def spDText (K : PySem.W.Frag) (C CD : Addr) : Sp := fun vs H Q _ => ∃ (d o1 o2 o3 o4 r1 r2 r3 r4 : Addr) (s1 s2 s3 s4 : List Stp), vs = [.ref d] ∧ DrAt K C CD H d o1 o2 o3 o4 r1 r2 r3 r4 s1 s2 s3 s4 ∧ ∀ H', Ext H H' → Q (.str (S (dtext [s1, s2, s3, s4]))) H'
def spLDText (K : PySem.W.Frag) : Sp := fun vs H Q _ => ∃ (l : Addr) (rs : List Addr) (rws : List (List Stp)), vs = [.ref l] ∧ Four K H l rs rws ∧ ∀ H', Ext H H' → Q (.str (S (dtext rws))) H'
def spIs (K : PySem.W.Frag) (C CD : Addr) : Sp := fun vs H Q _ => ∃ (d l o1 o2 o3 o4 r1 r2 r3 r4 : Addr) (s1 s2 s3 s4 : List Stp), vs = [.ref d, .ref l] ∧ DrAt K C CD H d o1 o2 o3 o4 r1 r2 r3 r4 s1 s2 s3 s4 ∧ Four K H l [r1, r2, r3, r4] [s1, s2, s3, s4] ∧ ∀ H', Ext H H' → Q (.bl true) H'
theorem join_lines {K : PySem.W.Frag} {H : Hp} {D : Addr} {rws : List (List Stp)} {Q : VK} (h : H D = some (.lst (((dlines rws).map S).map V.str))) (g : ∀ sts ∈ rws, (∀ st ∈ sts, st.ok) ∧ sts.length ≤ 6) (q : Q (.str (S (dtext rws))) H) :
    ∃ a p, ∃ ys : List Str, V.str "\n" = .str a ∧ [V.ref D] = [.ref p] ∧ (SqL K H p (ys.map V.str) ∨ SqT K H p (ys.map V.str)) ∧ (ys.map (·.length)).sum + ys.length * a.length ≤ 16777216 ∧ Q (.str (Txt.join a ys)) H := by
  refine ⟨_, D, (dlines rws).map S, rfl, rfl, .inl (SqL.of h), lines_sum g, ?_⟩
  rw [nl_S, join_S]
  exact q
section
variable {P : Program} {w : World} {K : PySem.W.Frag} {mg : Str → Option Value} {base : Heap}
theorem ok_ldtext {f : Addr} {fd : FuncData} (F : Fun K "_law_doors_text" "_law_doors_text" sLawDoorsText f fd) (T : Nms mg) (W : Cl P w K mg base 2 "_law_folding_text" (spLText K)) : FnOk P w K mg base CX0 3 f fd ["four"] (spLDText K) := by
  refine F.ok scLawDoorsText (fun vs H Q E h => ?_) (fun cdv A outer s H vs Q E hr h => ?_)
  · obtain ⟨l, rs, rws, rfl, _⟩ := h
    rfl
  · obtain ⟨l, rs, rws, rfl, ⟨hl, hW, h4⟩, q⟩ := h
    have nd := scLawDoorsText.nd
    refine ⟨_, pss_cons (ps_set (i := 1) nd rfl (Or.inr rfl) (pe_lst (pa_cons pe_str (pa_cons pe_str (pa_cons pe_str (pa_cons pe_str pa_nil))))))
      (pss_one (ps_ret (pe_join pe_str (pe_lc (own := [("k", 2)]) (g := gName 2) (tt := tYes) rfl nd (pi_range1 rfl T.range (pa_cons pe_int pa_nil)) (blkOk_by (N := ["four", "heads", "k"]) (sc := defScope sLawDoorsText) (by decide +kernel)) (fun _ _ _ _ _ => pg_name (i := 2) nd rfl (Or.inl rfl)) (fun _ _ _ _ _ => pts_nil)
        (fun _ _ _ _ _ => pe_op op_add_str (pe_ix (ix_listK (K := K) rfl) (pv 1) (pv 2) (fun _ _ => rfl)) (pe_cl W hr (by decide) rfl (pa_cons (pe_ix (ix_listK (K := K) rfl) (pv 0) (pv 2) (fun _ _ => rfl)) pa_nil))))))), ?_⟩
    refine ⟨by show 4 ≤ sizeLine; decide, fun t ht => ?_⟩
    have e4 : ([.str "put: ", .str "find: ", .str "strike: ", .str "wish: "] : List V) = (headsL.map S).map V.str := by rw [← heads_S]; rfl
    rw [e4]
    have kt : Ext H (L2.upd H t (.lst ((headsL.map S).map V.str))) := Ext.refl.new ht
    have et : (L2.upd H t (.lst ((headsL.map S).map V.str))) t = some (.lst ((headsL.map S).map V.str)) := upd_same
    generalize L2.upd H t (.lst ((headsL.map S).map V.str)) = H1 at kt et
    have W1 := hW.ext kt
    have l1 := kt l _ hl
    refine ⟨⟨_, rfl⟩, 4, rfl, by decide, by decide, fun D hDn => ?_⟩
    refine lc_it (walk_range (lo := 0) (n := 4)) (fun i H' => H' D = some (.lst ((((dlines rws).take i).map S).map V.str)) ∧ Ext H1 H') ⟨upd_same, Ext.refl.new hDn⟩ (fun _ _ _ _ => trivial) ?_ ?_
    · rintro i x H2 H3 hi ⟨h2, k2⟩ ⟨rfl, rfl⟩
      have ei : (0 : Int) + (i : Nat) = ((i : Nat) : Int) := by omega
      have hh : headsL[i]? = some headsL[i] := List.getElem?_eq_getElem (show i < 4 from hi)
      have hr' : i < rs.length := by rw [hW.len, h4]; exact hi
      have ho : rs[i]? = some rs[i] := List.getElem?_eq_getElem hr'
      obtain ⟨sts, hs, hR, h6⟩ := (W1.ext k2).get ho
      refine ⟨rfl, _, rfl, _, rfl, t, _, i, .str (S headsL[i]), rfl, congrArg V.int ei, SqL.of (k2 t _ et), atI_nat (by rw [List.getElem?_map, List.getElem?_map, hh]; rfl), ?_⟩
      refine ⟨_, rfl, _, rfl, l, _, i, .ref rs[i], rfl, congrArg V.int ei, SqL.of (k2 l _ l1), atI_nat (by rw [List.getElem?_map, ho]; rfl), ?_⟩
      refine ⟨rs[i], sts, rfl, hR, h6, fun H4 k4 => ⟨_, _, rfl, rfl, ?_, ?_⟩⟩
      · rw [S_len, S_len, sizeLine_eq]
        have h8 : ∀ y ∈ headsL, y.length ≤ 8 := by decide
        have h9 := h8 headsL[i] (List.mem_of_getElem? hh)
        have h10 := ftext_len hR.ok h6
        omega
      · rw [S_cat]
        refine ⟨_, k4 D _ h2, ?_, ?_, (k2.trans k4).new hDn⟩
        · rw [List.length_map, List.length_map, sizeLine_eq]
          have := List.length_take_le' i (dlines rws)
          have := lines_few rws
          omega
        · rw [upd_same, List.take_succ, line_get hh hs, List.map_append, List.map_append]
          rfl
    · rintro H2 ⟨h2, k2⟩
      rw [List.take_of_length_le (lines_few _)] at h2
      exact join_lines h2 hW.good (q H2 (kt.trans k2))
end
end Pd

set_option maxHeartbeats 4000000
namespace Pd
open PySem PySem.Spec PyProof.Rows L2
/-! ### a comprehension whose step may raise -/
/-- what is asked of its end: env the block's own -/
def endR (M : Model) (A : Around) (E : Value → Shared → Prop) (use : Option (Value → Sem Unit)) (Q : Value → Shared → Prop) (acc : Value) (env : Env) (r : Result) (s' : Shared) : Prop :=
  match r with
    | .error x => ∃ m, s'.heap.Ns env.locals m ∧ ∀ h', Heap.SameBut env.locals s'.heap h' → wpAny M A (passOn "comprehension.variables-let-go" x env : Sem Value) (fun _ _ => False) E { s' with heap := h' }
    | .ok _ => match use with
      | none => ∃ m, s'.heap.Ns env.locals m ∧ ∀ h', Heap.SameBut env.locals s'.heap h' → Q acc { s' with heap := h' }
      | some u => wpAny M A (u acc) (fun _ s2 => ∃ m, s2.heap.Ns env.locals m ∧ ∀ h', Heap.SameBut env.locals s2.heap h' → Q .none { s2 with heap := h' }) E s'
theorem comp_freeR {M : Model} {A : Around} {E : Value → Shared → Prop} {s : Shared} {env : Env} {e : Expr} {scope : Scope} {pos : Pos} {newAcc first : Sem Value} {g : Comprehension} {gs : List Comprehension} {cl : List (Str × Addr)} {use : Option (Value → Sem Unit)} {Q : Value → Shared → Prop}
    (hcl : clausesOf e = g :: gs) (hs : ∀ x, foldedSetIterable g.iter env x = pure x) (hclos : closureFor scope env = pure cl) (hk : scope.kind = .function) (hn : ∀ x ∈ scope.names, x.2 = .local → scope.names.lookup x.1 = some .local)
    (h : wpAny M A first (fun x s1 => wpAny M A (pyIter x) (fun it s2 => wpAny M A newAcc (fun acc s3 => wpAny M A (newFunctionEnv scope env.globals cl [] env.qual none .none (some env)) (fun ce s4 =>
        codeAny M A (.compStart e 0 it acc { ce with scope := relabel scope env }) (endR M A E use Q acc { ce with scope := relabel scope env }) s4) E s3) E s2) E s1) E s) :
    wpAny M A (comprehension e scope env pos newAcc false first use) Q E s := by
  unfold comprehension
  rw [hclos, hcl]
  refine wpAny_bind (thn h fun x s1 h1 => wpAny_bind (wpAny_standAt (wpAny_bind (wpAny_of_eq (hs x) (wpAny_bind (wpAny_holding (thn h1 fun it s2 h2 => wpAny_standIf (wpAny_bind (thn h2 fun acc s3 h3 => wpAny_bind (wpAny_pure (wpAny_bind (thn h3 fun ce s4 h4 => ?_))))))))))))
  dsimp only
  have hv : ∀ x ∈ (scope.names.filter fun x => (x.2 == .local || x.2 == .cell) && x.1 != (".0" : Str)).reverse, x.2 = .local → Env.kindOf { ce with scope := relabel scope env } x.1 = some .local := fun x hx hl => lookup_relabel_local (hn x (List.mem_filter.mp (List.mem_reverse.mp hx)).1 hl)
  have hv2 : ∀ x ∈ (scope.names.filter fun x => (x.2 == .local || x.2 == .cell) && x.1 != (".0" : Str)).reverse.drop 1 ++ (scope.names.filter fun x => (x.2 == .local || x.2 == .cell) && x.1 != (".0" : Str)).reverse.take 1, x.2 = .local → Env.kindOf { ce with scope := relabel scope env } x.1 = some .local := fun x hx hl =>
    (List.mem_append.mp hx).elim (fun z => hv x (List.mem_of_mem_drop z) hl) fun z => hv x (List.mem_of_mem_take z) hl
  refine wpAny_holding (wpAny_bind (wpAny_attempt (wpAny_holding (wpAny_run (codeAny_mono h4 fun r s' hr => ?_)))))
  cases r with
  | ok f =>
    cases use with
    | none =>
      obtain ⟨m, n, hr⟩ := hr
      exact wpAny_bind (wpAny_holding (wpAny_comp_letGo (cenv := { ce with scope := relabel scope env }) hk _ s' m hv n fun h' m' _ hs' => wpAny_pure (hr h' hs')))
    | some u =>
      refine wpAny_bind (wpAny_rule (wpAny_bind (wpAny_holding (thn hr fun _ s2 ⟨m, n, hr⟩ => ?_))))
      exact wpAny_bind (wpAny_comp_letGo (cenv := { ce with scope := relabel scope env }) hk _ s2 m hv2 n fun h' m' _ hs' => wpAny_pure (hr h' hs'))
  | error x =>
    obtain ⟨m, n, hr⟩ := hr
    exact wpAny_bind (wpAny_holding (wpAny_comp_letGo (cenv := { ce with scope := relabel scope env }) hk _ s' m hv n fun h' m' _ hs' => wpAny_mono (hr h' hs') (fun _ _ f => f.elim) fun _ _ y => y))
/-! ### the error in the air -/
theorem note_frame {x : Value} {e1 e2 : Env} (h : e1.frame = e2.frame) : noteFrame x e1 = noteFrame x e2 := by
  unfold noteFrame PySem.frameOf
  rw [h]
section
variable {X : Cx} {pins : List (Addr × Obj)} {σ : L2.St} {H : Hp} {s0 s' : Shared} {E : XK} {u : Value} {C : Addr}
theorem cx_air (I : Inv X pins σ H s0) (hF : C ∉ frs X.stack) (hC : H C = none) (c : CX X.prog X.w X.stack H s0 E u s') :
    ∃ (a : Addr) (B : Heap) (sI : Shared) (cls : Value) (d : Option Addr) (H' : Hp), u = .ref a ∧ HandSPX.FlyingZ B X.stack a (Zc cls d) s'.heap ∧ (∀ o, s0.heap.get? C = some o → B.get? C = some o) ∧ Inv X pins σ H' sI ∧
      (∀ b o, sI.heap.get? b = some o → b ∉ frs X.stack → B.get? b = some o) ∧ sI.heap.UpToSlots s'.heap ∧ H' a = none ∧ s'.os = sI.os ∧ AllBare s'.gens ∧ E cls d H' ∧ ∀ o, s0.heap.get? C = some o → H' C = none := by
  obtain ⟨a, B, H', cls, d, rfl, fl, hok, ub, na, os, ag, hE⟩ := c
  have stay := fl.1
  obtain ⟨G, g1, g2⟩ := restrict s'.heap fun b => decide (b ∈ frs X.stack) || (B.get? b).isSome
  have inB : ∀ b o, B.get? b = some o → G.get? b = some o := fun b o e => (g1 b (by simp [e])).trans (stay b o e)
  have inF : ∀ b, b ∈ frs X.stack → G.get? b = s'.heap.get? b := fun b hb => g1 b (by simp [hb])
  have back : ∀ b o, G.get? b = some o → s'.heap.get? b = some o ∧ (b ∈ frs X.stack ∨ B.get? b = some o) := fun b o e => by
    by_cases hb : b ∈ frs X.stack
    · exact ⟨by rw [← inF b hb]; exact e, .inl hb⟩
    · cases q : B.get? b with
      | none => rw [g2 b (by simp [hb, q])] at e; cases e
      | some o' => rw [inB b o' q] at e; cases e; exact ⟨stay b _ q, .inr rfl⟩
  refine ⟨a, B, { s0 with heap := G, gens := s'.gens, drawn := s'.drawn, toks := s'.toks }, cls, d, H', rfl, fl, fun o e => ub.keep C o e hC hF, ?_, fun b o e hb => (back b o e).2.resolve_left hb, Heap.UpToSlots.of_keeps fun b o e => (back b o e).1, na, os, ag, hE, fun o e => ub.free C o e hC⟩
  refine I.call (ch := []) ⟨fun b o e n hb _ => inB b o (ub.keep b o e n hb), fun b o e n hb _ => ?_, fun b o e n _ => ub.free b o e n, fun b o e _ => ?_, ub.tups, ub.frzs, ub.tbls⟩ (hok.kept inB) ag (fun _ z => nomatch z)
  · obtain ⟨sl, q⟩ := ub.slot b o e hb
    exact ⟨sl, (inF b hb).trans q⟩
  · by_cases hb : b ∈ frs X.stack
    · obtain ⟨sl, q⟩ := ub.slot b o e hb
      exact ⟨_, (inF b hb).trans q⟩
    · obtain ⟨o', q⟩ := ub.there b o e hb
      exact ⟨o', inB b o' q⟩
end
theorem frames_hide {h h' B B' : Heap} {C : Addr} {oC : Obj} (hB : B.get? C = some oC) (k : ∀ b, b ≠ C → h'.get? b = h.get? b) (kB : ∀ b, B.get? b = none → B'.get? b = none) : ∀ {l : List Env}, h.FunFrames B l → h'.FunFrames B' l
  | [], _ => trivial
  | env :: l, ⟨a, ⟨L, o, hf, hn, ho, hd⟩, r⟩ => ⟨a, ⟨L, o, hf, kB L hn, (k L (fun e => by rw [e, hB] at hn; cases hn)).trans ho, hd⟩, frames_hide hB k kB r⟩
theorem held_hide {h h' B B' : Heap} {l : List Env} {a L C : Addr} {Z : Obj → Prop} {oC : Obj} (x : HandSPX.HeldZ B l a Z L h) (hB : B.get? C = some oC) (k : ∀ b, b ≠ C → h'.get? b = h.get? b) (kB : ∀ b, b ≠ C → B'.get? b = B.get? b) (nB : B'.get? C = none) : HandSPX.HeldZ B' l a Z L h' := by
  obtain ⟨x1, x2, x3, oe, vs, T, oT, ts, he, hz, hd, h1, hnT, hTe, hT, hdT, h3⟩ := x
  have no : ∀ b, B.get? b = none → b ≠ C := fun b n e => by rw [e, hB] at n; cases n
  have kN : ∀ b, B.get? b = none → B'.get? b = none := fun b n => (kB b (no b n)).trans n
  refine ⟨fun b o e => ?_, kN a x2, frames_hide hB k kN x3, oe, vs, T, oT, ts, (k a (no a x2)).trans he, hz, hd, h1, kN T hnT, hTe, (k T (no T hnT)).trans hT, hdT, h3⟩
  have nb : b ≠ C := fun z => by rw [z, nB] at e; cases e
  rw [kB b nb] at e
  exact (k b nb).trans (x1 b o e)
/-- the error leaves the block -/
theorem leaves_block {X : Cx} {pins : List (Addr × Obj)} {σ : L2.St} {H : Hp} {s0 s' : Shared} {W : WX} {u : Value} {ce : Env} {m0 : Str → Option Value} (tk : Takes X W) (hs : X.stack = X.env :: X.outer) (hf : X.env.frame = some X.env.locals) (hce : ce.frame = X.env.frame) (I : Inv X pins σ H s0) (hm : s0.heap.Ns ce.locals m0)
    (fp : ∀ H' : Hp, H' ce.locals = none → FpOk X pins H' ce.locals) (hC : H ce.locals = none) (c : CX X.prog X.w X.stack H s0 (WE W σ) u s') {Q : Value → Shared → Prop} {use : Option (Value → Sem Unit)} {acc : Value} {R : Value → Shared → Prop} (hR : ∀ e s, endR (model X.prog X.w) X.A X.xe use Q acc ce (.error e) s → R e s) : notedBy (model X.prog X.w) X.A ce R u s' := by
  have nF : ce.locals ∉ frs X.stack := fun hb => by
    rcases List.mem_cons.mp (I.stkSub _ hb) with e | e
    · exact (fp H hC).2.1 e
    · exact (fp H hC).2.2.1 e
  obtain ⟨a, B, sI, cls, d, H', rfl, fl, kC, J, nb, up, na, os, ag, hE, hC'⟩ := cx_air I nF hC c
  obtain ⟨oC, es, ep, hoC, rC⟩ := id hm
  have bC := kC oC hoC
  have hn := hC' oC hoC
  unfold notedBy
  rw [note_frame hce]
  refine HandSPX.looks_onZ Zc.steady (by rw [I.ok.frames, hs]) hf (by rw [← hs]; exact fl) fun h1 hd up1 => hR _ _ ?_
  refine ⟨m0, ⟨oC, es, ep, hd.1 _ _ bC, rC⟩, fun h2 sb => ?_⟩
  obtain ⟨B', b1, b2⟩ := restrict B fun b => decide (b ≠ ce.locals)
  obtain ⟨G, g1, g2⟩ := restrict sI.heap fun b => decide (b ≠ ce.locals)
  have kB : ∀ b, b ≠ ce.locals → B'.get? b = B.get? b := fun b hb => b1 b (decide_eq_true hb)
  have nB : B'.get? ce.locals = none := b2 _ (by simp)
  have kG : ∀ b, b ≠ ce.locals → G.get? b = sI.heap.get? b := fun b hb => g1 b (decide_eq_true hb)
  have nG : G.get? ce.locals = none := g2 _ (by simp)
  have hd2 := held_hide (h' := h2) hd bC sb.2 kB nB
  obtain ⟨f0, f1, f2, f3, f4, f5⟩ := fp H' hn
  have J' : Inv X pins σ H' { sI with heap := G } := J.turned (t' := sI.toks) (fun b o hb e => (kG b hb).trans e) f0 f1 f3 f4 f5
  obtain ⟨y1, y2, y3, y4⟩ := hd2
  obtain ⟨oe, vs, T, oT, ts, he, hz, hdd, hv1, _⟩ := id y4
  show wpAny _ _ (passOn _ (.ref a) ce) _ _ _
  unfold PySem.passOn
  refine wpAny_bind (wpAny_field he hdd hv1 ?_)
  rw [if_neg (show ¬ (Value.ref T == Value.none) = true from by simp)]
  refine wpAny_bind (HandSPX.setFlight_anyZ y1 y3 y4 fun h3 z1 z3 z4 up3 => ?_)
  rw [hce, hf] at z4
  refine wpAny_throw (tk _ _ ⟨a, B', { sI with heap := G }, pins, σ, H', cls, d, rfl, J', fun b o e hb => ?_, fun b o e hnf => ?_, .inr (.inr ?_), na, os, ag, hE⟩)
  · have nb' : b ≠ ce.locals := fun z => by rw [z, nG] at e; cases e
    rw [kB b nb']
    rw [kG b nb'] at e
    exact nb b o e hb
  · have nb' : b ≠ ce.locals := fun z => by rw [z, nG] at e; cases e
    rw [kG b nb'] at e
    obtain ⟨sl, e1⟩ := (up.trans up1) b o e hnf
    obtain ⟨sl2, e2⟩ := up3 b _ ((sb.2 b nb').trans e1) hnf
    exact ⟨sl2, e2⟩
  · rw [hs]
    exact ⟨z1, y2, z3, z4⟩
end Pd

set_option maxHeartbeats 4000000
namespace Pd
open PySem PySem.Spec PyProof.Rows L2
/-! ### [e for t in i], e may raise -/
theorem inv_xe {Y : Cx} {xb : Value → Shared → Prop} {pins : List (Addr × Obj)} {σ : L2.St} {H : Hp} {s : Shared} (I : Inv Y pins σ H s) : Inv { Y with xe := xb } pins σ H s :=
  ⟨⟨I.ok.mod, I.ok.kind, I.ok.glob, I.ok.blt, I.ok.above, I.ok.inj, I.ok.has, I.ok.cab, I.ok.hd, I.ok.frames, I.ok.stk, I.ok.exf, I.ok.bs, I.ok.bsz, I.ok.noex, I.ok.exfs, I.ok.funs, I.ok.frf⟩, I.os, I.bare, I.base, I.loc, I.cell, I.free, I.freeC, I.pin, I.hok, I.len⟩
/-- the block's context with an exit -/
abbrev blkR (X : Cx) (s : Shared) (H : Hp) (scope : Scope) (ce : Env) (fp : List Addr) (xb : Value → Shared → Prop) : Cx := { X.blk s H scope ce fp with xe := xb }
def tLcR (wi : TI) (g : TG) (tt : TT) (te : L2.St → TE) (vs : List Nat) : TE := fun σ H Q => tLc wi g tt (te σ) vs σ H Q
theorem lcR_core {X : Cx} {W : WX} {elt tg iter : Expr} {ifs : List Expr} {scope : Scope} {own : List (Str × Nat)} {pos pos' : Pos} {wi : TI} {g : TG} {tt : TT} {te : L2.St → TE} {pins : List (Addr × Obj)} {s : Shared} {σ : L2.St} {H : Hp} {Q : VK} {use : Option (Value → Sem Unit)} {Qf : Value → Shared → Prop} (tk : Takes X W) (hst : X.stack = X.env :: X.outer) (hfr : X.env.frame = some X.env.locals) (hc : X.calm = true) (hN : X.N.Nodup) (I : Inv X pins σ H s) (hi : PI X tg iter wi)
    (ok : BlkOk X.N X.env.scope scope own) (hg : ∀ (s : Shared) (H : Hp) (C : Addr) (cl : List (Str × Addr)) (fp : List Addr), PG (X.blk s H scope (compEnvC scope cl C X.env) fp) tg g)
    (ht : ∀ (s : Shared) (H : Hp) (C : Addr) (cl : List (Str × Addr)) (fp : List Addr), PTs (X.blk s H scope (compEnvC scope cl C X.env) fp) ifs tt)
    (he : ∀ (σ : L2.St) (s : Shared) (H : Hp) (C : Addr) (cl : List (Str × Addr)) (fp : List Addr) (xb : Value → Shared → Prop), (∀ σ', PassesAt (L2.CX X.prog X.w) (blkR X s H scope (compEnvC scope cl C X.env) fp xb) σ' (WE W σ)) → PE (blkR X s H scope (compEnvC scope cl C X.env) fp xb) elt (te σ))
    (hs : ∀ x, foldedSetIterable iter X.env x = pure x) (h : tLcR wi g tt te (own.map (·.2)) σ H Q)
    (hRR : ∀ D ce s' m H', Inv X pins σ H' s' → Q (.ref D) H' → s'.heap.Ns ce.locals m → FpOk X pins H' ce.locals → endR (model X.prog X.w) X.A X.xe use Qf (.ref D) ce (.ok .next) s') :
    wpAny (model X.prog X.w) X.A (comprehension (.ListComp elt [⟨tg, iter, ifs, 0⟩] scope pos) scope X.env pos' (newList []) false (eval iter X.env) use) Qf X.xe s := by
  have hf : ∀ y ∈ scope.names, y.2 = .free → ∃ c, X.env.cells.lookup y.1 = some c := by
    intro y hy e
    rcases ok.free y hy e with k | k
    · exact I.ok.has _ (.inl k)
    · exact I.ok.has _ (.inr k)
  refine comp_freeR rfl hs (closure_ok hf) ok.kind (fun y hy e => by rw [ok.uniq y hy, e]) (thn (hi.run pins s σ H _ I h) fun xv s1 hx => thn hx ?_)
  rintro itv s2 ⟨it, fp, tn, J, H2, rfl, I2, T, st2, f2, q⟩
  refine wpAny_newObj_type (newEnv_comp ?_) (by show 0 ≤ sizeLine; decide)
  generalize hD : s2.heap.objs.size = D
  have dn : H2 D = none := I2.hok.fresh (Nat.le_of_eq hD)
  obtain ⟨Wt, ⟨m0, w0⟩, turn⟩ := q D dn
  generalize hs3 : ({ s2 with heap := s2.heap.push { cls := .type "list", data := .seq ([] : List Value).toArray } } : Shared) = s3
  have h3 : s3.heap = s2.heap.push { cls := .type "list", data := .seq ([] : List Value).toArray } := by rw [← hs3]
  have I3 : Inv X pins σ (upd H2 D (.lst [])) s3 := by
    rw [← hs3]
    refine I2.laid (t' := s2.toks) (fun b o e => Heap.get?_push_of_some _ e) (Nat.le_of_eq hD) ⟨Nat.zero_le _, [], 0, .nil, ?_⟩
    rw [← hD]
    exact Heap.get?_push_size _ rfl
  have f3 : ∀ b ∈ fp, FpOk X pins (upd H2 D (.lst [])) b ∧ b < s3.heap.objs.size := by
    intro b hb
    obtain ⟨o, e, _⟩ := T.obj _ _ st2 b hb
    have z := Heap.lt_size e
    refine ⟨⟨?_, (f2 b hb).2⟩, by rw [h3, Heap.size_push]; exact Nat.lt_succ_of_lt z⟩
    rw [upd_ne (by rw [← hD]; exact Nat.ne_of_lt z)]
    exact (f2 b hb).1
  have st3 : tn 0 s3.heap := T.keep _ _ _ st2 fun b _ o e => by rw [h3]; exact Heap.get?_push_of_some _ e
  have I4 := block_start I3 ok hN f3
  have pg := hg s3 (upd H2 D (.lst [])) s3.heap.objs.size (cellsFrom (s3.heap.objs.size + 1) scope.names (cloFrom X.env.cells scope.names [])) fp
  have pt := ht s3 (upd H2 D (.lst [])) s3.heap.objs.size (cellsFrom (s3.heap.objs.size + 1) scope.names (cloFrom X.env.cells scope.names [])) fp
  have pe := he σ s3 (upd H2 D (.lst [])) s3.heap.objs.size (cellsFrom (s3.heap.objs.size + 1) scope.names (cloFrom X.env.cells scope.names [])) fp
  have nfp : ∀ b ∈ fp, (upd H2 D (.lst [])) b = none := fun b hb => (f3 b hb).1.1
  show codeAny _ _ (.compStart (.ListComp elt [⟨tg, iter, ifs, 0⟩] scope pos) 0 (.ref it) (.ref D) (compEnvC scope (cellsFrom (s3.heap.objs.size + 1) scope.names (cloFrom X.env.cells scope.names [])) s3.heap.objs.size X.env))
    (endR (model X.prog X.w) X.A X.xe use Qf (.ref D) (compEnvC scope (cellsFrom (s3.heap.objs.size + 1) scope.names (cloFrom X.env.cells scope.names [])) s3.heap.objs.size X.env)) { s3 with heap := pushCells (s3.heap.push { cls := .type "dict", data := .dict #[] }) scope.names }
  generalize hce : compEnvC scope (cellsFrom (s3.heap.objs.size + 1) scope.names (cloFrom X.env.cells scope.names [])) s3.heap.objs.size X.env = ce at I4 pg pt pe ⊢
  have cL : ce.locals = s3.heap.objs.size := by subst hce; rfl
  have cF : ce.frame = X.env.frame := by subst hce; rfl
  generalize hH3 : upd H2 D (.lst []) = H3 at I3 I4 pg pt pe w0 nfp f3
  generalize hs4 : ({ s3 with heap := pushCells (s3.heap.push { cls := .type "dict", data := .dict #[] }) scope.names } : Shared) = s4 at I4 ⊢
  have st4 : tn 0 s4.heap := T.keep _ _ _ st3 fun b _ o e => by rw [← hs4]; exact pushCells_keeps _ _ _ _ (Heap.get?_push_of_some _ e)
  have stat : ∀ {σ' : L2.St} {H' : Hp} {s' : Shared}, Inv (X.blk s3 H3 scope ce fp) [] σ' H' s' → (∀ b ∈ fp, H' b = none) → ∀ b ∈ fp, FpOk (X.blk s3 H3 scope ce fp) [] H' b := fun {σ' H' s'} I' hn b hb =>
    ⟨hn b hb, (I'.ok.exf b hb).1, I'.ok.exfs b hb, .inl hb, fun x c e => (I'.ok.exf b hb).2 x c e, fun p hp => absurd (show p ∈ ([] : List (Addr × Obj)) ++ [] from hp) (by simp)⟩
  -- the def's context, from the block's
  have out : ∀ {pins' : List (Addr × Obj)} {σ' : L2.St} {H' : Hp} {s' : Shared}, Inv (X.blk s3 H3 scope ce fp) pins' σ' H' s' → Inv X pins σ H' s' := fun I' =>
    I3.call' (ch := fp) I'.os I'.base I'.hok I'.bare fun b hb => ⟨(f3 b hb).1.2.2.2.1, (f3 b hb).1.2.1, (f3 b hb).1.2.2.2.2.1, (f3 b hb).1.2.2.2.2.2⟩
  have fpC : ∀ H' : Hp, H' ce.locals = none → FpOk X pins H' ce.locals := fun H' n => I3.fpOk (by rw [cL]; exact Nat.le_refl _) n
  have loop : codeAny (model X.prog X.w) X.A (.compLoop (.ListComp elt [⟨tg, iter, ifs, 0⟩] scope pos) 0 (.ref it) (.ref D) ce) (endR (model X.prog X.w) X.A X.xe use Qf (.ref D) ce) s4 := by
    refine compLoop_any (fun m s' => ∃ i H', Inv (X.blk s3 H3 scope ce fp) [] (wipe σ (own.map (·.2))) H' s' ∧ tn i s'.heap ∧ (∀ b ∈ fp, H' b = none) ∧ Wt i m H') ?_ m0 ⟨0, H3, I4, st4, nfp, w0⟩
    rintro m s5 ⟨i, H5, I5, st5, n5, w5⟩
    rcases turn i m H5 w5 with ⟨stop, qq⟩ | ⟨go, Nx, hNx, step⟩
    · refine thnF (T.done (X.blk s3 H3 scope ce fp) rfl rfl rfl hc i [] s5 _ H5 (fun _ _ => False) I5 (stat I5 n5) st5 stop) ?_
      rintro r s6 ⟨rfl, I6⟩
      obtain ⟨mm, hn, _⟩ := I6.loc
      exact hRR D ce s6 mm H5 (out I6) qq hn (fpC H5 I6.free)
    · refine thnF (T.item (X.blk s3 H3 scope ce fp) rfl rfl rfl hc i [] s5 _ H5 (fun _ _ => False) I5 (stat I5 n5) st5 go) ?_
      rintro r s6 ⟨u, rfl, h6⟩
      refine thnF h6 ?_
      rintro _ s7 ⟨x, H7, I7, r7, y7, st7, n7⟩
      have I7' := I7.pinned (stat I7 n7) (T.obj _ _ st7)
      refine thnF (pg.run _ s7 _ H7 x u _ I7' r7 (step x H7 y7)) ?_
      rintro _ s8 ⟨σ8, H8, I8, hw8, q8⟩
      refine thnF (pt.run _ s8 σ8 H8 _ I8 q8) ?_
      rintro b s9 ⟨H9, I9, q9⟩
      have fin : ∀ {s' : Shared} {H' : Hp}, Inv (X.blk s3 H3 scope ce fp) ([] ++ pinsAt fp s7.heap) σ8 H' s' → Nx H' → ∃ m', m' < m ∧ ∃ i H', Inv (X.blk s3 H3 scope ce fp) [] (wipe σ (own.map (·.2))) H' s' ∧ tn i s'.heap ∧ (∀ b ∈ fp, H' b = none) ∧ Wt i m' H' := by
        intro s' H' I' nx
        obtain ⟨m', hm, w'⟩ := hNx H' nx
        have pin' : ∀ b ∈ fp, ∀ o, s7.heap.get? b = some o → s'.heap.get? b = some o ∧ H' b = none := fun b hb o e =>
          let z := I'.pin (b, o) (List.mem_append_right _ (List.mem_append_right _ (mem_pinsAt hb e)))
          ⟨z.1, z.2.1⟩
        have hl : (wipe σ (own.map (·.2))).length = σ8.length := by rw [← hw8, wipe_length]
        refine ⟨m', hm, i + 1, H', (I'.unpinned (pins := [])).weak hl (fun j v e => ?_), T.keep _ _ _ st7 fun b hb o e => (pin' b hb o e).1, fun b hb => ?_, w'⟩
        · rw [← hw8] at e
          exact (wipe_some e).1
        · obtain ⟨o, e, _⟩ := T.obj _ _ st7 b hb
          exact (pin' b hb o e).2
      cases b with
      | false =>
        simp only [Bool.false_eq_true, if_false] at q9 ⊢
        exact fin I9 q9
      | true =>
        simp only [if_true] at q9 ⊢
        have pe := pe (fun e s' => ∃ (pins' : List (Addr × Obj)) (σ' : L2.St) (H0 : Hp) (s0 : Shared), Inv (X.blk s3 H3 scope ce fp) pins' σ' H0 s0 ∧ CX X.prog X.w X.stack H0 s0 (WE W σ) e s') fun σ' pins' H0 s0 e s' J c => ⟨pins', σ', H0, s0, inv_xe (xb := fun _ _ => False) J, c⟩
        refine wpAny_mono (pe.run _ s9 σ8 H9 _ (inv_xe I9) q9) ?_ ?_
        · rintro z s10 ⟨yv, H10, I10, r10, acc, hD10, hz10, nx⟩
          have I10 : Inv (X.blk s3 H3 scope ce fp) ([] ++ pinsAt fp s7.heap) σ8 H10 s10 := inv_xe (xb := fun _ _ => False) I10
          refine thnF (app_ok (X := X.blk s3 H3 scope ce fp) (Q := fun _ s' => Inv (X.blk s3 H3 scope ce fp) ([] ++ pinsAt fp s7.heap) σ8 (upd H10 D (.lst (acc ++ [yv]))) s') I10 hD10 hz10 r10 fun s11 I11 => I11) ?_
          rintro _ s11 I11
          exact fin I11 nx
        · rintro e s' ⟨pins', σ', H0, s0, J, c⟩
          obtain ⟨mm, hn, _⟩ := J.loc
          exact leaves_block tk hst hfr cF (out J) hn fpC J.free c fun _ _ z => z
  exact codeAny_compStart_list loop (T.self X.A 0 _ _ _ st4 loop)
section
variable {X : Cx} {W : WX} {elt tg iter : Expr} {ifs : List Expr} {scope : Scope} {own : List (Str × Nat)} {pos : Pos} {wi : TI} {g : TG} {tt : TT} {te : L2.St → TE}
theorem pe_lcR (tk : Takes X W) (hst : X.stack = X.env :: X.outer) (hfr : X.env.frame = some X.env.locals) (hc : X.calm = true) (hN : X.N.Nodup) (hi : PI X tg iter wi) (ok : BlkOk X.N X.env.scope scope own)
    (hg : ∀ (s : Shared) (H : Hp) (C : Addr) (cl : List (Str × Addr)) (fp : List Addr), PG (X.blk s H scope (compEnvC scope cl C X.env) fp) tg g) (ht : ∀ (s : Shared) (H : Hp) (C : Addr) (cl : List (Str × Addr)) (fp : List Addr), PTs (X.blk s H scope (compEnvC scope cl C X.env) fp) ifs tt)
    (he : ∀ (σ : L2.St) (s : Shared) (H : Hp) (C : Addr) (cl : List (Str × Addr)) (fp : List Addr) (xb : Value → Shared → Prop), (∀ σ', PassesAt (L2.CX X.prog X.w) (blkR X s H scope (compEnvC scope cl C X.env) fp xb) σ' (WE W σ)) → PE (blkR X s H scope (compEnvC scope cl C X.env) fp xb) elt (te σ))
    (hs : ∀ x, foldedSetIterable iter X.env x = pure x := by intro _; rfl) : PE X (.ListComp elt [⟨tg, iter, ifs, 0⟩] scope pos) (tLcR wi g tt te (own.map (·.2))) := by
  constructor
  intro pins s σ H Q I h
  rw [eval_ListComp]
  exact lcR_core tk hst hfr hc hN I hi ok hg ht he hs h fun D ce s' m H' J q hn ⟨g0, g1, g2, g3, g4, g5⟩ => ⟨m, hn, fun h6 sb => ⟨.ref D, H', J.turned (t' := s'.toks) (fun b o hb e => (sb.2 b hb).trans e) g0 g1 g3 g4 g5, rfl, q⟩⟩
/-- name = [..] on one line, the name a local -/
theorem ps_setLcR {i : Nat} {y : Str} {py spos : Pos} (tk : Takes X W) (hst : X.stack = X.env :: X.outer) (hfr : X.env.frame = some X.env.locals) (hc : X.calm = true) (hN : X.N.Nodup) (hy : X.N[i]? = some y) (hyl : X.env.scope.names.lookup y = some .local)
    (hsw : swapsWith (.ListComp elt [⟨tg, iter, ifs, 0⟩] scope pos) (some (.Name y py)) spos.line X.env = pure true) (hi : PI X tg iter wi) (ok : BlkOk X.N X.env.scope scope own)
    (hg : ∀ (s : Shared) (H : Hp) (C : Addr) (cl : List (Str × Addr)) (fp : List Addr), PG (X.blk s H scope (compEnvC scope cl C X.env) fp) tg g) (ht : ∀ (s : Shared) (H : Hp) (C : Addr) (cl : List (Str × Addr)) (fp : List Addr), PTs (X.blk s H scope (compEnvC scope cl C X.env) fp) ifs tt)
    (he : ∀ (σ : L2.St) (s : Shared) (H : Hp) (C : Addr) (cl : List (Str × Addr)) (fp : List Addr) (xb : Value → Shared → Prop), (∀ σ', PassesAt (L2.CX X.prog X.w) (blkR X s H scope (compEnvC scope cl C X.env) fp xb) σ' (WE W σ)) → PE (blkR X s H scope (compEnvC scope cl C X.env) fp xb) elt (te σ))
    (hs : ∀ x, foldedSetIterable iter X.env x = pure x := by intro _; rfl) : PS X (.Assign [.Name y py] (.ListComp elt [⟨tg, iter, ifs, 0⟩] scope pos) spos) (tAsg (tLcR wi g tt te (own.map (·.2))) (gName i)) := by
  constructor
  intro pins s σ H D I h
  rw [exec_Assign_Name_used _ _ _ _ hsw]
  refine wpAny_bind (wpAny_standAt (wpAny_bind ?_))
  show wpAny _ X.A (do let _ ← comprehension (.ListComp elt [⟨tg, iter, ifs, 0⟩] scope pos) scope X.env (firstIterPos [⟨tg, iter, ifs, 0⟩] pos) (newList []) false (eval iter X.env) (some (assign (.Name y py) X.env))) _ _ s
  refine wpAny_bind (thn (lcR_core (Qf := fun _ s' => SP X pins D .next s') tk hst hfr hc hN I hi ok hg ht he hs (show tLcR wi g tt te (own.map (·.2)) σ H (fun x H1 => gName i x σ H1 D.nx) from h) fun L ce s' m H' J q hn ⟨g0, g1, g2, g3, g4, g5⟩ => ?_) fun _ s' hq => wpAny_pure (wpAny_pure hq))
  show wpAny _ _ (assign (.Name y py) X.env (.ref L)) _ _ _
  refine wpAny_assign_Name (store_ok2 (v := V.ref L) J hN hy (.inl hyl) rfl (fun s2 I2 ⟨a, sb, ha⟩ => ?_) (.inr hyl))
  have apart : ce.locals ≠ a := ha.elim (fun z => by rw [z]; exact g1) fun z e => g4 y a z e.symm
  exact ⟨m, hn.sameBut sb apart, fun h3 sb3 => ⟨_, H', I2.turned (t' := s2.toks) (fun b o hb e => (sb3.2 b hb).trans e) g0 g1 g3 g4 g5, q⟩⟩
end
end Pd

set_option maxHeartbeats 4000000
namespace Pd
open PySem PySem.Spec PyProof.Rows L2 SX PySem.OEX L2H
/-! ### NoLine, with its line -/
def spNlInit (C : Addr) : Sp := fun vs H Q _ => ∃ (a : Addr) (y : V), vs = [.ref a, y] ∧ H a = some (exo a C none) ∧
  ∀ d, H d = none → d ≠ a → Q .non (upd (upd H d (exd d [("line", y)])) a (exo a C (some d)))
structure NlC (K : PySem.W.Frag) (mg : Str → Option Value) (C D : Addr) : Prop where
  o : OexC K C
  no : PySem.W.findIn K (.ref C) "line" = some none
  g : mg "PlainError" = some (.ref D)
  rg : PySem.W.specialIn K (.ref D) "__getattribute__" = some (some (.builtin "type.__getattribute__"))
  rd : PySem.W.readsIn K D (.type "type") = true
  vV : PySem.W.findCls K (.ref D) (.type "type") "__init__" = some (.val (.builtin "ValueError.__init__"))
section
variable {P : Program} {w : World} {K : PySem.W.Frag} {mg : Str → Option Value} {base : Heap}
theorem ok_nlInit {f C D : Addr} {fd : FuncData} (F : Fun K "__init__" "NoLine.__init__" sNolineInit f fd) (Z : NlC K mg C D) : FnOk P w K mg base CX0 1 f fd ["self", "line"] (spNlInit C) := by
  refine F.ok scNolineInit (fun vs H Q E h => ?_) (fun cdv A outer s H vs Q E hr h => ?_)
  · obtain ⟨a, y, rfl, _⟩ := h
    rfl
  · obtain ⟨a, y, rfl, e, q⟩ := h
    refine ⟨_, pss_cons (ps_expr (pe_oeinit (x := "PlainError") rfl Z.g Z.rg Z.rd Z.vV (pa_cons (pv 0) (pa_cons pe_str pa_nil))))
      (pss_one (ps_ost (pv 0) (pv 1))), ?_⟩
    refine ⟨_, rfl, a, C, _, rfl, by show 1 ≤ 1000; decide, Z.o, e, ?_⟩
    exact ⟨_, rfl, _, rfl, a, C, rfl, Z.o, Z.no, .inl ⟨e, fun dx hd n => q dx hd n⟩⟩
/-- the same while an error is handled -/
theorem ok_nlInitH {f C D : Addr} {fd : FuncData} (F : Fun K "__init__" "NoLine.__init__" sNolineInit f fd) (Z : NlC K mg C D) : FnH P w K mg base CX0 1 f fd ["self", "line"] (spNlInit C) := by
  obtain ⟨oc, od, kV, doc, pm, an, cdv, ct, osl, rfl, lk, hcd⟩ := F.ex
  refine fn_ofH lk hcd scNolineInit (fun vs H Q E h => ?_) (fun A outer s H vs Q E p hot hr h => ?_)
  · obtain ⟨a, y, rfl, _⟩ := h
    rfl
  · obtain ⟨a, y, rfl, e, q⟩ := h
    refine ⟨_, pss_cons (ps_expr (pe_oeinit (x := "PlainError") rfl Z.g Z.rg Z.rd Z.vV (pa_cons (pv 0) (pa_cons pe_str pa_nil))))
      (pss_one (ps_ost (pv 0) (pv 1))), ?_⟩
    refine ⟨_, rfl, a, C, _, rfl, by show 1 ≤ 1000; decide, Z.o, e, ?_⟩
    exact ⟨_, rfl, _, rfl, a, C, rfl, Z.o, Z.no, .inl ⟨e, fun dx hd n => q dx hd n⟩⟩
end
theorem nl_ask {C : Addr} {H : Hp} {y : V} {Q : XK} (q : ∀ d H', H d = none → Ext H H' → H' d = some (.xd [("line", y)]) → Q (.ref C) (some d) H') :
    [y].length ≤ 1000 ∧ ∀ a, H a = none → spNlInit C (.ref a :: ([y] ++ [])) (upd H a (exo a C none)) (fun v H2 => v = .non ∧ ∃ (d : Addr) (fs : List (Str × V)), H2 a = some (exo a C (some d)) ∧ H2 d = some (exd d fs) ∧ H d = none ∧ Q (.ref C) (some d) (upd (del H2 a) d (.xd fs))) (fun _ _ _ => False) := by
  refine ⟨by show 1 ≤ 1000; decide, fun a ha => ⟨a, y, rfl, upd_same, fun d hd n => ?_⟩⟩
  have hd' : H d = none := by rw [upd_ne n] at hd; exact hd
  refine ⟨rfl, d, [("line", y)], upd_same, by rw [upd_ne n]; exact upd_same, hd', q d _ hd' (fun b o e => ?_) upd_same⟩
  have nb : b ≠ d := ne_of_none e hd'
  have na : b ≠ a := ne_of_none e ha
  rw [upd_ne nb, del_ne na, upd_ne na, upd_ne nb, upd_ne na]
  exact e
/-- the class NoLine as it is raised -/
structure NlR (P : Program) (w : World) (K : PySem.W.Frag) (mg : Str → Option Value) (base : Heap) (C : Addr) : Prop where
  o : OexC K C
  init : ∃ (g : Addr) (fd : FuncData), PySem.W.findIn K (.ref C) "__init__" = some (some (.ref g)) ∧ PySem.W.typeIn K (.ref g) = some (.type "function") ∧ FnOk P w K mg base CX0 1 g fd ["self", "line"] (spNlInit C) ∧ FnH P w K mg base CX0 1 g fd ["self", "line"] (spNlInit C) ∧ Binds K fd ["self", "line"] []
  g : mg "NoLine" = some (.ref C)
/-! ### the folding that a line writes -/
inductive LnAt (i : Nat) (x : List Nat) : Option (List Stp) → Prop where
  | head (h : 4 ≤ i ∨ ∀ hd y, headsL[i]? = some hd → x ≠ hd ++ y) : LnAt i x none
  | made {hd y : List Nat} {sts : List Stp} (h : headsL[i]? = some hd) (e : x = hd ++ y) (r : RdAt y (.made sts)) : LnAt i x (some sts)
  | part {hd y : List Nat} {k : Nat} (h : headsL[i]? = some hd) (e : x = hd ++ y) (r : RdAt y (.part k)) : LnAt i x none
  | many {hd y : List Nat} (h : headsL[i]? = some hd) (e : x = hd ++ y) (r : RdAt y .many) : LnAt i x none
def LnQ (K : PySem.W.Frag) (C CL : Addr) (i : Nat) (H : Hp) (Q : VK) (E : XK) : Option (List Stp) → Prop
  | some sts => ∀ o r H', Ext H H' → FolQ K C H' o r sts → Q (.ref o) H'
  | none => ∀ d H', H d = none → Ext H H' → H' d = some (.xd [("line", .int (i : Nat))]) → E (.ref CL) (some d) H'
def spFOf (K : PySem.W.Frag) (C CL : Addr) : Sp := fun vs H Q E => ∃ (i : Nat) (x : List Nat) (r : Option (List Stp)), vs = [.int (i : Nat), .str (S x)] ∧ i ≤ 1000 ∧ x.length ≤ 1000 ∧ LnAt i x r ∧ LnQ K C CL i H Q E r
theorem starts_S (a b : List Nat) : Txt.startswith (S a) (S b) = decide (a.take b.length = b) := by
  unfold Txt.startswith
  rw [show Builtin.Str.subAt (S a) (S b) 0 = (((S a).cps.toList.drop 0).take (S b).length == (S b).cps.toList) from StrLaws.subAt_eq (S a) (S b) 0]
  show (decide (0 + (S b).length ≤ (S a).length) && (List.take (S b).length (List.drop 0 a) == b)) = _
  rw [S_len, S_len, List.drop_zero, Nat.zero_add]
  by_cases h : a.take b.length = b
  · have hl : b.length ≤ a.length := by
      have := congrArg List.length h
      rw [List.length_take] at this
      omega
    rw [decide_eq_true h, decide_eq_true hl, Bool.true_and, h]
    exact beq_self_eq_true b
  · rw [decide_eq_false h, beq_eq_false_iff_ne.mpr h, Bool.and_false]
theorem ext_none {H H' : Hp} {l : Addr} (k : Ext H H') (h : H' l = none) : H l = none := by
  cases e : H l with
  | none => rfl
  | some o => rw [k l o e] at h; cases h
theorem heads_get {i : Nat} (h : i < 4) : ∃ hd, headsL[i]? = some hd ∧ hd.length ≤ 8 := ⟨headsL[i], List.getElem?_eq_getElem h, (by decide : ∀ y ∈ headsL, y.length ≤ 8) _ (List.getElem_mem h)⟩
section
variable {P : Program} {w : World} {K : PySem.W.Frag} {mg : Str → Option Value} {base : Heap}
theorem ok_fof {f Cf CN CQ CL : Addr} {fd : FuncData} (F : Fun K "_folding_of" "_folding_of" sFoldingOf f fd) (T : Nms mg) (C : CstD K mg) (Y : NlR P w K mg base CL) (hN : mg "NoStep" = some (.ref CN)) (hQ : mg "NoPart" = some (.ref CQ)) (eN : PySem.W.exmAny K (.ref CN) [.ref CQ, .ref CN] = some true) (eQ : PySem.W.exmAny K (.ref CQ) [.ref CQ, .ref CN] = some true)
    (R : ∃ (g : Addr) (fd : FuncData), FnOk P w K mg base (L2N.CX P w) 6 g fd ["text"] (spRead K Cf CN CQ) ∧ mg "read_folding" = some (.ref g) ∧ PySem.W.keepIn K (.ref g) = true ∧ Binds K fd ["text"] []) : FnOk P w K mg base (L2.CX P w) 7 f fd ["at", "line"] (spFOf K Cf CL) := by
  refine F.okX scFoldingOf (fun vs H Q E h => ?_) (fun cdv A outer s H vs Q E hr h => ?_)
  · obtain ⟨i, x, r, rfl, _⟩ := h
    rfl
  · obtain ⟨i, x, r, rfl, hi, hl, hx, q⟩ := h
    have nd := scFoldingOf.nd
    obtain ⟨gi, fdi, iC, tI, FI, FH, bI⟩ := Y.init
    obtain ⟨gr, fdr, FR, mR, kR, bR⟩ := R
    obtain ⟨Bd, hB, sB⟩ := C.heads
    refine ⟨_, pss_cons (ps_if (PW.pt (pw_or (pt_cmpR op_ge (pv 0) (pe_callB call_len_seq (by rfl) T.len PySem.boot_len (pa_cons (pe_glob (v := .ref Bd) rfl hB rfl) pa_nil)) (nomark _))
          (pw_or1 (pt_not (pt_val (pe_m1 PySem.F.slot_str_startswith PySem.F.type_str_startswith mt_startswith (pv 1) (pe_ix ix_tup (pe_glob (v := .ref Bd) rfl hB rfl) (pv 0) (fun _ _ => rfl))))))))
        (pss_one (ps_raise rfl (takes_of rfl rfl rfl rfl) (pmk_oex Y.o iC tI FI (hr.mono (by decide)) bI .nil pass0 rfl Y.g (pa_cons (pv 0) pa_nil)))) pss_nil)
      (pss_one (ps_try_pair (C1 := CQ) (C2 := CN) (Wout := fun cls d _ H => E cls d H)
        (tb := fun W => tRet (tCallS (spRead K Cf CN CQ) (WE W) (tCons _ tNil)))
        (ts := fun _ _ _ => fun _ σ H => tMkO CL (spNlInit CL) [] (tCons (tVar 0) tNil) σ H fun cls d H' => E cls d H')
        rfl rfl rfl hQ rfl hN (passesAt_of rfl) (takes_of rfl rfl rfl rfl)
        (fun W pn xe tk _ => pss_one (ps_ret (pe_callS FR (hr.mono (show 6 ≤ 6 by decide)) rfl mR kR bR (fun σ => L2N.passAt tk σ) (pa_cons (pe_slice C8.sl_txt (pv 1) (po_some (pe_callB call_len_str (by rfl) T.len PySem.boot_len (pa_cons (pe_ix (ix_tupK (K := K) rfl) (pe_glob (v := .ref Bd) rfl hB rfl) (pv 0) (fun _ _ => rfl)) pa_nil))) po_none) pa_nil))))
        (fun a o cls d pn hz hf tk hot => pss_one (ps_raiseHN hot tk (pmk5_oexH Y.o iC tI FH (roomH_mark (hr.mono (show 2 ≤ 6 by decide)) _) hot bI pass0 rfl Y.g (pa_cons (pv 0) pa_nil)))))), ?_⟩
    have l4 : (((headsL.map S).map V.str).length : Int) = 4 := by decide
    refine ⟨_, rfl, Bd, _, rfl, .inr (sB H), _, _, rfl, rfl, ?_⟩
    rw [l4]
    by_cases h4 : 4 ≤ i
    · have rn : r = none := by
        cases hx with
        | head h => rfl
        | made h e rd => rw [List.getElem?_eq_none (show headsL.length ≤ i from h4)] at h; cases h
        | part h e rd => rfl
        | many h e rd => rfl
      subst rn
      exact ⟨true, congrArg V.bl (decide_eq_true (show (4 : Int) ≤ (i : Nat) by omega)), iteT (iteT ⟨_, rfl, nl_ask fun d H' hd k e => q d H' hd k e⟩)⟩
    · obtain ⟨hd, eh, lh⟩ := heads_get (i := i) (by omega)
      have at1 : atI ((headsL.map S).map V.str) (i : Int) = some (.str (S hd)) := atI_nat (by rw [List.getElem?_map, List.getElem?_map, eh]; rfl)
      refine ⟨false, congrArg V.bl (decide_eq_false (show ¬ (4 : Int) ≤ (i : Nat) by omega)), iteF ⟨_, rfl, ⟨_, rfl⟩, _, rfl, Bd, _, _, _, rfl, rfl, sB H, at1, _, _, rfl, rfl, ?_⟩⟩
      rw [starts_S]
      by_cases hp : x.take hd.length = hd
      · rw [decide_eq_true hp]
        have ex : x = hd ++ x.drop hd.length := by
          have := List.take_append_drop hd.length x
          rw [hp] at this
          exact this.symm
        refine ⟨true, rfl, iteF ?_⟩
        refine ⟨_, rfl, _, rfl, Bd, _, _, _, rfl, rfl, sB H, at1, S hd, rfl, by rw [S_len, sizeLine_eq]; omega, _, rfl, ?_⟩
        have key : ∃ rr, RdAt (x.drop hd.length) rr ∧ RnQ K Cf CN CQ H (fun v H' => Q v H') (WE (wPair K (Value.ref CQ) (Value.ref CN) (fun _ _ _ => fun _ σ H => tMkO CL (spNlInit CL) [] (tCons (tVar 0) tNil) σ H fun cls d H' => E cls d H') { nx := fun _ H' => Q V.non H', rt := Q }) (L2.start ["at", "line"] [V.int (i : Nat), V.str (S x)])) rr := by
          have same : ∀ {hd' y : List Nat}, headsL[i]? = some hd' → x = hd' ++ y → y = x.drop hd.length := fun {hd' y} h e => by
            rw [eh] at h; cases h; rw [e, List.drop_left]
          cases hx with
          | head h =>
            rcases h with h | h
            · exact absurd h h4
            · exact absurd ex (h hd _ eh)
          | made h e rd => rw [← same h e]; exact ⟨_, rd, fun o r H' k f => q o r H' k f⟩
          | part h e rd =>
            rw [← same h e]
            exact ⟨_, rd, fun d H' hd0 k e1 => ⟨eQ, fun a ha => ⟨_, rfl, nl_ask fun d' H2 hd' k' e' => q d' H2 (ext_none k hd') (k.trans k') e'⟩⟩⟩
          | many h e rd =>
            rw [← same h e]
            exact ⟨_, rd, fun d H' hd0 k e1 => ⟨eN, fun a ha => ⟨_, rfl, nl_ask fun d' H2 hd' k' e' => q d' H2 (ext_none k hd') (k.trans k') e'⟩⟩⟩
        obtain ⟨rr, hrd, hq⟩ := key
        refine ⟨S x, rfl, ?_, ?_⟩
        · rw [S_len, sizeLine_eq]; omega
        rw [slice_from (by omega)]
        rw [S_len]
        exact ⟨_, rfl, .inr ⟨_, rr, rfl, by rw [List.length_drop]; omega, by simpa using hrd, hq⟩⟩
      · rw [decide_eq_false hp]
        have rn : r = none := by
          cases hx with
          | head h => rfl
          | made h e rd => rw [eh] at h; cases h; rw [e, List.take_left] at hp; exact absurd rfl hp
          | part h e rd => rfl
          | many h e rd => rfl
        subst rn
        exact ⟨false, rfl, iteT ⟨_, rfl, nl_ask fun d H' hd k e => q d H' hd k e⟩⟩
end
end Pd

set_option maxHeartbeats 4000000
namespace Pd
open PySem PySem.Spec PyProof.Rows L2 SX PySem.OEX L2H
/-! ### read_doors -/
def spl10 (x : List Nat) : List (List Nat) := TL.spl [10] 0 [] x
theorem l_len {x : List Nat} : (∀ p ∈ spl10 x, p.length ≤ x.length) ∧ (spl10 x).length ≤ x.length + 1 := by
  have h := spl_len (s := [10]) x 0 []
  simpa [spl10] using h
theorem splS10 (x : List Nat) : Txt.split (S x) "\n" = (spl10 x).map S := by
  rw [nl_S]
  exact split_S (by decide) (by decide)
/-- lines that are right, with what they write -/
def Gds (ls : List (List Nat)) (four : List (List Stp)) : Prop := ls.length = four.length ∧ ∀ j l, ls[j]? = some l → ∃ sts, four[j]? = some sts ∧ LnAt j l (some sts)
inductive Dn where
  | made (four : List (List Stp))
  | line (k : Nat)
inductive DnAt (x : List Nat) : Dn → Prop where
  | bad {k : Nat} {l : List Nat} {four : List (List Stp)} (g : Gds ((spl10 x).take k) four) (e : (spl10 x)[k]? = some l) (b : LnAt k l none) : DnAt x (.line k)
  | few {four : List (List Stp)} (g : Gds (spl10 x) four) (h : four.length < 4) : DnAt x (.line four.length)
  | made {four : List (List Stp)} (g : Gds (spl10 x) four) (h : four.length = 4) : DnAt x (.made four)
/-- foldings, one a row -/
inductive FosQ (K : PySem.W.Frag) (C : Addr) (H : Hp) : List Addr → List (List Stp) → Prop where
  | nil : FosQ K C H [] []
  | cons {o r : Addr} {sts : List Stp} {os : List Addr} {four : List (List Stp)} (h : FolQ K C H o r sts) (t : FosQ K C H os four) : FosQ K C H (o :: os) (sts :: four)
theorem FosQ.ext {K : PySem.W.Frag} {C : Addr} {H H' : Hp} (k : Ext H H') : ∀ {os : List Addr} {four : List (List Stp)}, FosQ K C H os four → FosQ K C H' os four
  | _, _, .nil => .nil
  | _, _, .cons h t => .cons (h.ext k) (t.ext k)
theorem FosQ.snoc {K : PySem.W.Frag} {C : Addr} {H : Hp} {o r : Addr} {sts : List Stp} (h : FolQ K C H o r sts) : ∀ {os : List Addr} {four : List (List Stp)}, FosQ K C H os four → FosQ K C H (os ++ [o]) (four ++ [sts])
  | _, _, .nil => .cons h .nil
  | _, _, .cons a t => .cons a (t.snoc h)
theorem FosQ.len {K : PySem.W.Frag} {C : Addr} {H : Hp} : ∀ {os : List Addr} {four : List (List Stp)}, FosQ K C H os four → os.length = four.length
  | _, _, .nil => rfl
  | _, _, .cons _ t => congrArg Nat.succ t.len
theorem FolQ.ups {K : PySem.W.Frag} {C : Addr} {H : Hp} {it o r : Addr} {xs ys : List V} {sts : List Stp} (hit : H it = some (.lst xs)) (h : FolQ K C H o r sts) : FolQ K C (L2.upd H it (.lst ys)) o r sts := by
  obtain ⟨⟨dx, e⟩, ⟨ps, sp, al⟩, l⟩ := h
  exact ⟨⟨dx, by rw [upd_ne (by rintro rfl; rw [e] at hit; cases hit)]; exact e⟩, ⟨ps, sqT_noLst sp (Kp.upd (o := .lst ys)) hit, al.ups hit⟩, l⟩
theorem FosQ.ups {K : PySem.W.Frag} {C : Addr} {H : Hp} {it : Addr} {xs ys : List V} (hit : H it = some (.lst xs)) : ∀ {os : List Addr} {four : List (List Stp)}, FosQ K C H os four → FosQ K C (L2.upd H it (.lst ys)) os four
  | _, _, .nil => .nil
  | _, _, .cons h t => .cons (h.ups hit) (t.ups hit)
/-- doors of them -/
def DrQ (K : PySem.W.Frag) (C CD : Addr) (H : Hp) (d : Addr) (four : List (List Stp)) : Prop := ∃ o1 o2 o3 o4 : Addr, (∃ dx, H d = some (.ins CD dx (dflds o1 o2 o3 o4))) ∧ FosQ K C H [o1, o2, o3, o4] four
theorem DrQ.ext {K : PySem.W.Frag} {C CD : Addr} {H H' : Hp} {d : Addr} {four : List (List Stp)} (h : DrQ K C CD H d four) (k : Ext H H') : DrQ K C CD H' d four := by
  obtain ⟨o1, o2, o3, o4, ⟨dx, e⟩, f⟩ := h
  exact ⟨o1, o2, o3, o4, ⟨dx, k _ _ e⟩, f.ext k⟩
theorem dmade_askQ {K : PySem.W.Frag} {C CD : Addr} {H : Hp} {x dx o1 o2 o3 o4 : Addr} {four : List (List Stp)} {Q : VK} {E : XK} (f : FosQ K C H [o1, o2, o3, o4] four) (hx : H x = none) (hdx : H dx = none) (ne : dx ≠ x) (q : ∀ H', DrQ K C CD H' x four → Ext H H' → Q .non H') :
    spDInit CD [.ref x, .ref o1, .ref o2, .ref o3, .ref o4] (upd (upd H dx (.own x)) x (.ins CD dx [])) Q E := by
  have k : Ext H (upd (upd (upd H dx (.own x)) x (.ins CD dx [])) x (.ins CD dx (dflds o1 o2 o3 o4))) := fun b u e => by
    rw [upd_ne (ne_of_none e hx), upd_ne (ne_of_none e hx), upd_ne (ne_of_none e hdx)]; exact e
  exact ⟨x, dx, o1, o2, o3, o4, rfl, upd_same, q _ ⟨o1, o2, o3, o4, ⟨dx, upd_same⟩, f.ext k⟩ k⟩
def DnQ (K : PySem.W.Frag) (C CD CL : Addr) (H : Hp) (Q : VK) (E : XK) : Dn → Prop
  | .made four => ∀ d H', Ext H H' → DrQ K C CD H' d four → Q (.ref d) H'
  | .line k => ∀ d H', H d = none → Ext H H' → H' d = some (.xd [("line", .int (k : Nat))]) → E (.ref CL) (some d) H'
def spReadD (K : PySem.W.Frag) (C CD CL : Addr) : Sp := fun vs H Q E => ∃ v, vs = [v] ∧ ((NoStr K H v ∧ DnQ K C CD CL H Q E (.line 0)) ∨ ∃ x r, v = .str (S x) ∧ x.length ≤ 1000 ∧ DnAt x r ∧ DnQ K C CD CL H Q E r)
section
variable {P : Program} {w : World} {K : PySem.W.Frag} {mg : Str → Option Value} {base : Heap}
theorem ok_readD {f Cf CD CL : Addr} {fd : FuncData} (F : Fun K "read_doors" "read_doors" sReadDoors f fd) (T : Nms mg) (C : CstD K mg) (Y : NlR P w K mg base CL) (Z : Dcl K mg CD) (M : ∃ (f : Addr) (fd : FuncData), Mk K CD f ∧ FnOk P w K mg base CX0 1 f fd ["self", "put", "find", "strike", "wish"] (spDInit CD) ∧ Binds K fd ["self", "put", "find", "strike", "wish"] [])
    (R : ∃ (g : Addr) (fd : FuncData), FnOk P w K mg base (L2.CX P w) 7 g fd ["at", "line"] (spFOf K Cf CL) ∧ mg "_folding_of" = some (.ref g) ∧ PySem.W.keepIn K (.ref g) = true ∧ Binds K fd ["at", "line"] []) : FnOk P w K mg base (L2.CX P w) 8 f fd ["text"] (spReadD K Cf CD CL) := by
  refine F.okX scReadDoors (fun vs H Q E h => ?_) (fun cdv A outer s H vs Q E hr h => ?_)
  · obtain ⟨v, rfl, _⟩ := h
    rfl
  · obtain ⟨v, rfl, h⟩ := h
    have nd := scReadDoors.nd
    obtain ⟨gi, fdi, iC, tI, FI, FH, bI⟩ := Y.init
    obtain ⟨gr, fdr, FR, mR, kR, bR⟩ := R
    obtain ⟨fm, fdm, Mm, FM, bM⟩ := M
    obtain ⟨Bd, hB, sB⟩ := C.heads
    refine ⟨_, pss_cons (ps_if (pt_not (pt_val (pe_callB call_isi (by rfl) T.isi (by decide +kernel) (pa_cons (pv 0) (pa_cons (pe_bltn (v := .ty "str") (by rfl) T.str (by decide +kernel) rfl) pa_nil))))) (pss_one (ps_raise rfl (takes_of rfl rfl rfl rfl) (pmk_oex Y.o iC tI FI (hr.mono (by decide)) bI .nil pass0 rfl Y.g (pa_cons pe_int pa_nil)))) pss_nil)
      (pss_cons (ps_setLcR (i := 1) (own := [("at", 6), ("line", 7)]) (W := fun cls d _ H => E cls d H) (tt := tYes) (takes_of rfl rfl rfl rfl) rfl rfl rfl nd rfl rfl (sw_true rfl rfl rfl (by decide +kernel)) (pi_enum (by rfl) T.enum (pa_cons (pe_split (pv 0) pe_str) pa_nil))
          (blkOk_by (N := ["text", "foldings", "put", "find", "strike", "wish", "at", "line"]) (sc := defScope sReadDoors) (by decide +kernel)) (g := gTup K 2 (gCons (gName 6) (gCons (gName 7) gNil))) (fun _ _ _ _ _ => pg_tup (n := 2) rfl (pgs_cons (pg_name (i := 6) nd rfl (Or.inl rfl)) (pgs_cons (pg_name (i := 7) nd rfl (Or.inl rfl)) pgs_nil))) (fun _ _ _ _ _ => pts_nil)
          (te := fun σ => tCallS (spFOf K Cf CL) (fun _ => WE (fun cls d _ H => E cls d H) σ) (tCons (tVar 6) (tCons (tVar 7) tNil)))
          (fun σ s H C cl fp xb hx => pe_callS FR (hr.mono (show 7 ≤ 7 by decide)) rfl mR kR bR hx (pa_cons (pv 6) (pa_cons (pv 7) pa_nil))))
      (pss_cons (ps_if (pt_cmpR op_lt (pe_callB call_len_seq (by rfl) T.len PySem.boot_len (pa_cons (pv 1) pa_nil)) (pe_callB call_len_seq (by rfl) T.len PySem.boot_len (pa_cons (pe_glob (v := .ref Bd) rfl hB rfl) pa_nil)) (nomark _)) (pss_one (ps_raise rfl (takes_of rfl rfl rfl rfl) (pmk_oex Y.o iC tI FI (hr.mono (by decide)) bI .nil pass0 rfl Y.g (pa_cons (pe_callB call_len_seq (by rfl) T.len PySem.boot_len (pa_cons (pv 1) pa_nil)) pa_nil)))) pss_nil)
      (pss_cons (ps_asg (pv 1) (pg_lst rfl (pgs_cons (pg_name (i := 2) nd rfl (Or.inl rfl)) (pgs_cons (pg_name (i := 3) nd rfl (Or.inl rfl)) (pgs_cons (pg_name (i := 4) nd rfl (Or.inl rfl)) (pgs_cons (pg_name (i := 5) nd rfl (Or.inl rfl)) pgs_nil))))))
      (pss_one (ps_ret (pe_make Mm FM (hr.mono (by decide)) rfl Z.mgC bM .nil pass0 (pa_cons (pv 2) (pa_cons (pv 3) (pa_cons (pv 4) (pa_cons (pv 5) pa_nil)))))))))), ?_⟩
    rcases h with ⟨⟨t, ty, kb⟩, q⟩ | ⟨x, r, rfl, hl, hd, q⟩
    · exact ⟨_, rfl, _, _, _, _, false, rfl, .ty "str", ty, kit_ty kb, false, rfl, iteT (nl_ask fun d H' hd k e => q d H' hd k e)⟩
    refine ⟨_, rfl, _, _, _, _, true, rfl, .ty "str", .base (.str _), kit_ty (by decide +kernel), true, rfl, iteF ?_⟩
    obtain ⟨ll, ln⟩ := l_len (x := x)
    obtain ⟨four, hg, hb, he⟩ : ∃ four : List (List Stp), (∀ i l, i < four.length → (spl10 x)[i]? = some l → ∃ sts, four[i]? = some sts ∧ LnAt i l (some sts)) ∧ (∀ l, (spl10 x)[four.length]? = some l → LnAt four.length l none ∧ r = .line four.length) ∧
        ((spl10 x).length ≤ four.length → four.length = (spl10 x).length ∧ (four.length < 4 ∧ r = .line four.length ∨ four.length = 4 ∧ r = .made four)) := by
      cases hd with
      | @bad k l four g e b =>
        have hk : k < (spl10 x).length := (List.getElem?_eq_some_iff.mp e).1
        have lk : four.length = k := by rw [← g.1, List.length_take]; omega
        refine ⟨four, fun i l' hi e' => g.2 i l' (by rw [List.getElem?_take_of_lt (by omega)]; exact e'), fun l' e' => ?_, fun z => by omega⟩
        rw [lk] at e' ⊢
        rw [e] at e'
        cases e'
        exact ⟨b, rfl⟩
      | few g h => exact ⟨_, fun i l' _ e' => g.2 i l' e', (fun l' e' => by rw [← g.1, List.getElem?_eq_none (Nat.le_refl _)] at e'; cases e'), fun _ => ⟨g.1.symm, .inl ⟨h, rfl⟩⟩⟩
      | made g h => exact ⟨_, fun i l' _ e' => g.2 i l' e', (fun l' e' => by rw [← g.1, List.getElem?_eq_none (Nat.le_refl _)] at e'; cases e'), fun _ => ⟨g.1.symm, .inr ⟨h, rfl⟩⟩⟩
    refine ⟨_, rfl, ⟨_, rfl⟩, _, _, rfl, rfl, by decide +kernel, by rw [S_len, sizeLine_eq]; omega, fun pl hpl => ⟨pl, _, rfl, SqL.of upd_same, fun D hD => ?_⟩⟩
    rw [splS10] at hD ⊢
    obtain ⟨H1, z1⟩ : ∃ H', H' = L2.upd H pl (.lst (((spl10 x).map S).map V.str)) := ⟨_, rfl⟩
    rw [← z1] at hD ⊢
    have k1 : Ext H H1 := by rw [z1]; exact Ext.refl.new hpl
    have x1 : H1 pl = some (.lst (((spl10 x).map S).map V.str)) := by rw [z1]; exact upd_same
    have xsl : (((spl10 x).map S).map V.str).length = (spl10 x).length := by rw [List.length_map, List.length_map]
    refine lc_it (walk_enum (xs := ((spl10 x).map S).map V.str)) (fun i H' => ∃ os, H' D = some (.lst (os.map V.ref)) ∧ i ≤ four.length ∧ FosQ K Cf H' os (four.take i) ∧ Ext H1 H') ⟨[], upd_same, Nat.zero_le _, .nil, Ext.refl.new hD⟩ (fun i H' _ p => by
      obtain ⟨os, _, _, _, k⟩ := p
      exact SqL.of (k _ _ x1)) ?_ ?_
    · rintro i y H2 H3 hi ⟨os, hD2, h4, fo, k2⟩ ⟨Ta, w1, y1, rfl, hT, rfl, e1, e2⟩
      obtain rfl := Option.some.inj e1
      replace e2 : (((spl10 x).map S).map V.str)[i]? = some y1 := e2
      rw [List.getElem?_map, List.getElem?_map] at e2
      obtain ⟨z, hz, rfl⟩ := Option.map_eq_some_iff.mp e2
      obtain ⟨l, hy, rfl⟩ := Option.map_eq_some_iff.mp hz
      have hyl : l.length ≤ 1000 := Nat.le_trans (ll l (List.mem_of_getElem? hy)) hl
      have hil : i < (spl10 x).length := (List.getElem?_eq_some_iff.mp hy).1
      have k3 : Ext H2 (L2.upd H2 Ta (.tup [V.int (i : Nat), .str (S l)])) := Ext.refl.new hT
      have hDT : D ≠ Ta := ne_of_none hD2 hT
      refine ⟨Ta, _, rfl, SqT.of upd_same, rfl, _, _, rfl, _, _, rfl, rfl, rfl, ?_⟩
      by_cases hi4 : i < four.length
      · obtain ⟨sts, es, la⟩ := hg i l hi4 hy
        refine ⟨_, rfl, _, rfl, i, l, some sts, rfl, by omega, hyl, la, fun o r' H4 k4 f4 => ?_⟩
        have hD4 : H4 D = some (.lst (os.map V.ref)) := (k3.trans k4) _ _ hD2
        refine ⟨_, hD4, by rw [List.length_map, fo.len, List.length_take, sizeLine_eq]; omega, os ++ [o], ?_, by omega, ?_, ?_⟩
        · rw [upd_same, List.map_append]; rfl
        · rw [List.take_succ, es]
          exact ((fo.ext (k3.trans k4)).ups hD4).snoc (f4.ups hD4)
        · exact ((k2.trans k3).trans k4).new hD
      · obtain rfl : i = four.length := by omega
        obtain ⟨la, er⟩ := hb l hy
        subst er
        exact ⟨_, rfl, _, rfl, _, l, none, rfl, by omega, hyl, la, fun d H4 hd4 k4 e4 => q d H4 (ext_none (k1.trans (k2.trans k3)) hd4) ((k1.trans (k2.trans k3)).trans k4) e4⟩
    · rintro H2 ⟨os, hD2, h4, fo, k2⟩
      rw [xsl] at h4 fo
      have fo : FosQ K Cf H2 os four := by
        rw [List.take_of_length_le (Nat.le_of_eq (he h4).1)] at fo
        exact fo
      have l2 := fo.len
      have lB : (((headsL.map S).map V.str).length : Int) = 4 := by decide
      have lD : (((os.map V.ref).length : Nat) : Int) = (four.length : Nat) := by rw [List.length_map, l2]
      refine ⟨_, rfl, D, _, rfl, .inl (SqL.of hD2), Bd, _, rfl, .inr (sB H2), _, _, rfl, rfl, ?_⟩
      rcases (he h4).2 with ⟨h5, er⟩ | ⟨h5, er⟩
      · subst er
        refine ⟨true, congrArg V.bl (decide_eq_true (by rw [lB, lD]; omega)), iteT ⟨_, rfl, D, _, rfl, .inl (SqL.of hD2), nl_ask ?_⟩⟩
        rw [lD]
        exact fun d H4 hd4 k4 e4 => q d H4 (ext_none (k1.trans k2) hd4) ((k1.trans k2).trans k4) e4
      · subst er
        refine ⟨false, congrArg V.bl (decide_eq_false (by rw [lB, lD]; omega)), iteF ?_⟩
        rw [h5] at l2
        match os, l2 with
        | [o1, o2, o3, o4], _ =>
          refine ⟨_, rfl, D, _, rfl, SqL.of hD2, rfl, _, _, rfl, _, _, rfl, _, _, rfl, _, _, rfl, rfl, ?_⟩
          exact ⟨_, rfl, _, rfl, _, rfl, _, rfl, fun y dy hy hdy ney => dmade_askQ fo hy hdy ney fun H4 f4 k4 => ⟨rfl, q y H4 ((k1.trans k2).trans k4) f4⟩⟩
end
end Pd

set_option maxHeartbeats 4000000
namespace Pd
open PySem PySem.Spec PyProof.Rows L2 SX PySem.OEX L2H
/-! ### the law's own reading of doors -/
inductive RwQ (K : PySem.W.Frag) (H : Hp) : List Addr → List (List Stp) → Prop where
  | nil : RwQ K H [] []
  | cons {r : Addr} {sts : List Stp} {rs : List Addr} {four : List (List Stp)} (h : RowQ K H r sts) (l : sts.length ≤ 6) (t : RwQ K H rs four) : RwQ K H (r :: rs) (sts :: four)
theorem RwQ.ext {K : PySem.W.Frag} {H H' : Hp} (k : Ext H H') : ∀ {rs : List Addr} {four : List (List Stp)}, RwQ K H rs four → RwQ K H' rs four
  | _, _, .nil => .nil
  | _, _, .cons h l t => .cons (h.ext k) l (t.ext k)
theorem RwQ.snoc {K : PySem.W.Frag} {H : Hp} {r : Addr} {sts : List Stp} (h : RowQ K H r sts) (l : sts.length ≤ 6) : ∀ {rs : List Addr} {four : List (List Stp)}, RwQ K H rs four → RwQ K H (rs ++ [r]) (four ++ [sts])
  | _, _, .nil => .cons h l .nil
  | _, _, .cons a b t => .cons a b (t.snoc h l)
theorem RwQ.len {K : PySem.W.Frag} {H : Hp} : ∀ {rs : List Addr} {four : List (List Stp)}, RwQ K H rs four → rs.length = four.length
  | _, _, .nil => rfl
  | _, _, .cons _ _ t => congrArg Nat.succ t.len
theorem RowQ.ups {K : PySem.W.Frag} {H : Hp} {it r : Addr} {xs ys : List V} {sts : List Stp} (hit : H it = some (.lst xs)) (h : RowQ K H r sts) : RowQ K (L2.upd H it (.lst ys)) r sts := by
  obtain ⟨ps, sp, al⟩ := h
  exact ⟨ps, sqT_noLst sp (Kp.upd (o := .lst ys)) hit, al.ups hit⟩
theorem RwQ.ups {K : PySem.W.Frag} {H : Hp} {it : Addr} {xs ys : List V} (hit : H it = some (.lst xs)) : ∀ {rs : List Addr} {four : List (List Stp)}, RwQ K H rs four → RwQ K (L2.upd H it (.lst ys)) rs four
  | _, _, .nil => .nil
  | _, _, .cons h l t => .cons (h.ups hit) l (t.ups hit)
def DueD (K : PySem.W.Frag) (H : Hp) (t : Addr) : Dn → Prop
  | .made four => ∃ fl rs, H t = some (.tup [.str "made", .ref fl]) ∧ H fl = some (.lst (rs.map V.ref)) ∧ RwQ K H rs four
  | .line k => H t = some (.tup [.str "line", .int (k : Nat)])
def spDue (K : PySem.W.Frag) : Sp := fun vs H Q _ => ∃ x r, vs = [.str (S x)] ∧ x.length ≤ 1000 ∧ DnAt x r ∧ ∀ t H', Ext H H' → DueD K H' t r → Q (.ref t) H'
theorem rd_six {y : List Nat} {sts : List Stp} (h : RdAt y (.made sts)) : sts.length ≤ 6 := by
  cases h with
  | plain h => exact Nat.zero_le _
  | good n h l => exact l
/-- what a page comes to, line by line -/
theorem dn_by {x : List Nat} {r : Dn} (hd : DnAt x r) : ∃ four : List (List Stp), (∀ i l, i < four.length → (spl10 x)[i]? = some l → ∃ sts, four[i]? = some sts ∧ LnAt i l (some sts)) ∧ (∀ l, (spl10 x)[four.length]? = some l → LnAt four.length l none ∧ r = .line four.length) ∧
    ((spl10 x).length ≤ four.length → four.length = (spl10 x).length ∧ (four.length < 4 ∧ r = .line four.length ∨ four.length = 4 ∧ r = .made four)) := by
  cases hd with
  | @bad k l four g e b =>
    have hk : k < (spl10 x).length := (List.getElem?_eq_some_iff.mp e).1
    have lk : four.length = k := by rw [← g.1, List.length_take]; omega
    refine ⟨four, fun i l' hi e' => g.2 i l' (by rw [List.getElem?_take_of_lt (by omega)]; exact e'), fun l' e' => ?_, fun z => by omega⟩
    rw [lk] at e' ⊢
    rw [e] at e'
    cases e'
    exact ⟨b, rfl⟩
  | few g h => exact ⟨_, fun i l' _ e' => g.2 i l' e', (fun l' e' => by rw [← g.1, List.getElem?_eq_none (Nat.le_refl _)] at e'; cases e'), fun _ => ⟨g.1.symm, .inl ⟨h, rfl⟩⟩⟩
  | made g h => exact ⟨_, fun i l' _ e' => g.2 i l' e', (fun l' e' => by rw [← g.1, List.getElem?_eq_none (Nat.le_refl _)] at e'; cases e'), fun _ => ⟨g.1.symm, .inr ⟨h, rfl⟩⟩⟩
section
variable {P : Program} {w : World} {K : PySem.W.Frag} {mg : Str → Option Value} {base : Heap}
theorem ok_due {f : Addr} {fd : FuncData} (F : Fun K "_law_due" "_law_due" sLawDue f fd) (T : Nms mg) (GR : Cl P w K mg base 3 "_law_read" (spLRead K)) : FnOk P w K mg base CX0 4 f fd ["page"] (spDue K) := by
  refine F.ok scLawDue (fun vs H Q E h => ?_) (fun cdv A outer s H vs Q E hr h => ?_)
  · obtain ⟨x, r, rfl, _⟩ := h
    rfl
  · obtain ⟨x, r, rfl, hl, hd, q⟩ := h
    have nd := scLawDue.nd
    refine ⟨_, C8.pss_cut (ps_par3 (i := 1) (j := 2) (l := 3) (by rfl) nd rfl rfl rfl (by decide) (by decide) (by decide) rfl rfl rfl (pa_cons (pe_lst (pa_cons pe_str (pa_cons pe_str (pa_cons pe_str (pa_cons pe_str pa_nil))))) (pa_cons (pe_lst pa_nil) (pa_cons (pe_split (pv 0) pe_str) pa_nil))) (by rfl))
      (pss_cons (ps_for PassesOwn.never rfl (pi_range1 rfl T.range (pa_cons (pe_callB call_len_seq (by rfl) T.len PySem.boot_len (pa_cons (pv 3) pa_nil)) pa_nil)) (pg_name (i := 4) nd rfl (Or.inl rfl))
        (pss_cons (ps_if (PW.pt (pw_or (pt_cmpR op_gt (pv 4) pe_int (nomark _)) (pw_or1 (pt_cmpR op_ne (pe_slice C8.sl_txt (pe_ix ix_list (pv 3) (pv 4) (fun _ _ => rfl)) po_none (po_some (pe_callB call_len_str (by rfl) T.len PySem.boot_len (pa_cons (pe_ix ix_list (pv 1) (pe_callB (call_min2 rfl) (by rfl) T.min (by decide +kernel) (pa_cons pe_int (pa_cons (pv 4) pa_nil))) (fun _ _ => rfl)) pa_nil))))
            (pe_ix ix_list (pv 1) (pe_callB (call_min2 rfl) (by rfl) T.min (by decide +kernel) (pa_cons pe_int (pa_cons (pv 4) pa_nil))) (fun _ _ => rfl)) (nomark _))))) (pss_one (ps_ret (pe_tup (pa_cons pe_str (pa_cons (pv 4) pa_nil))))) pss_nil)
        (pss_cons (ps_set (i := 5) nd rfl (Or.inl rfl) (pe_cl GR hr (by decide) rfl (pa_cons (pe_slice C8.sl_txt (pe_ix ix_list (pv 3) (pv 4) (fun _ _ => rfl)) (po_some (pe_callB call_len_str (by rfl) T.len PySem.boot_len (pa_cons (pe_ix ix_list (pv 1) (pv 4) (fun _ _ => rfl)) pa_nil))) po_none) pa_nil)))
        (pss_cons (ps_if (pt_cmpR op_ne (pe_ix ix_tup (pv 5) pe_int (fun _ _ => rfl)) pe_str (nomark _)) (pss_one (ps_ret (pe_tup (pa_cons pe_str (pa_cons (pv 4) pa_nil))))) pss_nil)
        (pss_one (ps_expr (pe_bm PySem.F.plainAttrs_list PySem.F.slot_list_append PySem.F.type_list_append mt_append (pv 2) (pa_cons (pe_ix ix_tup (pv 5) pe_int (fun _ _ => rfl)) pa_nil))))))))
      (pss_one (ps_ret (pe_ifExp (pt_cmpR op_eq (pe_callB call_len_seq (by rfl) T.len PySem.boot_len (pa_cons (pv 3) pa_nil)) pe_int (nomark _)) (pe_tup (pa_cons pe_str (pa_cons (pv 2) pa_nil))) (pe_tup (pa_cons pe_str (pa_cons (pe_callB call_len_seq (by rfl) T.len PySem.boot_len (pa_cons (pv 3) pa_nil)) pa_nil))))))), ?_⟩
    obtain ⟨ll, ln⟩ := l_len (x := x)
    obtain ⟨four, hg, hb, he⟩ := dn_by hd
    refine ⟨fun σ' H' => ∃ hl fl pl, σ' = [some (.str (S x)), some (.ref hl), some (.ref fl), some (.ref pl), none, none] ∧ H' hl = some (.lst ((headsL.map S).map V.str)) ∧ H' pl = some (.lst (((spl10 x).map S).map V.str)) ∧ H' fl = some (.lst []) ∧ H fl = none ∧ fl ≠ hl ∧ fl ≠ pl ∧ Ext H H', ?_, ?_⟩
    · refine ⟨by show 4 ≤ sizeLine; decide, fun hl' nhl => ⟨by show 0 ≤ sizeLine; decide, fun fl nfl => ⟨_, rfl, ⟨_, rfl⟩, _, _, rfl, rfl, by decide +kernel, by rw [S_len, sizeLine_eq]; omega, fun pl npl => ?_⟩⟩⟩
      have e4 : ([.str "put: ", .str "find: ", .str "strike: ", .str "wish: "] : List V) = (headsL.map S).map V.str := by rw [← heads_S]; rfl
      have n1 : fl ≠ hl' := by rintro rfl; rw [upd_same] at nfl; cases nfl
      have n2 : fl ≠ pl := by rintro rfl; rw [upd_same] at npl; cases npl
      have n3 : hl' ≠ pl := by rintro rfl; rw [upd_ne n1.symm, upd_same] at npl; cases npl
      have nf : H fl = none := by rw [upd_ne n1] at nfl; exact nfl
      refine ⟨_, _, _, rfl, hl', fl, pl, rfl, ?_, ?_, ?_, nf, n1, n2, ((Ext.refl.new nhl).new' nfl).new' npl⟩
      · rw [upd_ne n3, upd_ne n1.symm, upd_same, ← e4]
      · rw [upd_same, splS10]
      · rw [upd_ne n2, upd_same]
    rintro σ1 H1 ⟨hl', fl, pl, rfl, x1, y1, z1, nfl, n1, n2, k1⟩
    have xsl : (((((spl10 x).map S).map V.str).length : Nat) : Int) = ((spl10 x).length : Nat) := by rw [List.length_map, List.length_map]
    refine ⟨_, rfl, pl, _, rfl, .inl (SqL.of y1), _, rfl, by rw [xsl]; omega, by rw [xsl]; omega, ?_⟩
    rw [xsl]
    refine for_range (lo := 0) (n := (((spl10 x).length : Nat) : Int).toNat) (fun i σ H' => ∃ u4 u5 rs, σ = [some (.str (S x)), some (.ref hl'), some (.ref fl), some (.ref pl), u4, u5] ∧ H' hl' = some (.lst ((headsL.map S).map V.str)) ∧ H' pl = some (.lst (((spl10 x).map S).map V.str)) ∧ H' fl = some (.lst (rs.map V.ref)) ∧ i ≤ four.length ∧ RwQ K H' rs (four.take i) ∧ Ext H H') ⟨none, none, [], rfl, x1, y1, z1, Nat.zero_le _, .nil, k1⟩ ?_ ?_
    · rintro i σ H2 hi ⟨u4, u5, rs, rfl, x2, y2, z2, h4, rw2, k2⟩
      have hil : i < (spl10 x).length := by omega
      obtain ⟨l, hy⟩ : ∃ l, (spl10 x)[i]? = some l := ⟨_, List.getElem?_eq_getElem hil⟩
      have hyl : l.length ≤ 1000 := Nat.le_trans (ll l (List.mem_of_getElem? hy)) hl
      have hat : atI (((spl10 x).map S).map V.str) ((i : Nat) : Int) = some (.str (S l)) := atI_nat (by rw [List.getElem?_map, List.getElem?_map, hy]; rfl)
      show gName 4 (V.int (0 + (i : Nat))) _ _ _
      rw [Int.zero_add]
      obtain ⟨ro, hro, her⟩ : ∃ ro, LnAt i l ro ∧ ((∃ sts, ro = some sts ∧ i < four.length ∧ four[i]? = some sts) ∨ (ro = none ∧ r = .line i)) := by
        by_cases h : i < four.length
        · obtain ⟨sts, e, la⟩ := hg i l h hy
          exact ⟨_, la, .inl ⟨sts, rfl, h, e⟩⟩
        · obtain rfl : i = four.length := by omega
          obtain ⟨la, er⟩ := hb l hy
          exact ⟨_, la, .inr ⟨rfl, er⟩⟩
      have noline : ro = none → ∀ H', Ext H H' → ∀ t, H' t = none → Q (.ref t) (L2.upd H' t (.tup [.str "line", .int (i : Nat)])) := fun e H' k t ht => by
        rcases her with ⟨sts, e', _⟩ | ⟨_, er⟩
        · rw [e] at e'; cases e'
        · subst er
          exact q t _ (k.new' ht) upd_same
      by_cases h3 : 3 < i
      · have hn : ro = none := by
          cases hro with
          | head h => rfl
          | made h e rd => rw [List.getElem?_eq_none (show headsL.length ≤ i from h3)] at h; cases h
          | part h e rd => rfl
          | many h e rd => rfl
        exact ⟨_, rfl, _, _, rfl, rfl, true, congrArg V.bl (decide_eq_true (show (3 : Int) < (i : Nat) by omega)), iteT (iteT ⟨_, rfl, by show 2 ≤ sizeLine; decide, fun t ht => noline hn _ k2 t ht⟩)⟩
      obtain ⟨hd, eh, lh⟩ := heads_get (i := i) (by omega)
      have at1 : atI ((headsL.map S).map V.str) ((i : Nat) : Int) = some (.str (S hd)) := atI_nat (by rw [List.getElem?_map, List.getElem?_map, eh]; rfl)
      have hmin : (if ((i : Nat) : Int) < 3 then ((i : Nat) : Int) else 3) = (i : Nat) := by split <;> omega
      refine ⟨_, rfl, _, _, rfl, rfl, false, congrArg V.bl (decide_eq_false (show ¬ (3 : Int) < (i : Nat) by omega)), iteF ?_⟩
      refine ⟨_, rfl, _, rfl, pl, _, _, _, rfl, rfl, SqL.of y2, hat, ?_⟩
      refine ⟨_, rfl, _, rfl, _, _, rfl, hl', _, _, .str (S hd), rfl, rfl, SqL.of x2, (by rw [hmin]; exact at1), S hd, rfl, by rw [S_len, sizeLine_eq]; omega, _, rfl, S l, rfl, by rw [S_len, sizeLine_eq]; omega, ?_⟩
      refine ⟨_, rfl, _, rfl, _, _, rfl, hl', _, _, .str (S hd), rfl, rfl, SqL.of x2, (by rw [hmin]; exact at1), ?_⟩
      rw [slice_to (by omega), S_len]
      have hnone : ro = none → (∃ hd' y, headsL[i]? = some hd' ∧ l = hd' ++ y) → l.take hd.length = hd := fun _ ⟨hd', y, e1, e2⟩ => by rw [eh] at e1; cases e1; rw [e2, List.take_left]
      by_cases hp : l.take hd.length = hd
      · refine ⟨rfl, false, (by show V.bl (!decide (V.str (S (l.take hd.length)) = V.str (S hd))) = _; rw [dec_S, decide_eq_true hp]; rfl), iteF ?_⟩
        have ex : l = hd ++ l.drop hd.length := by
          have := List.take_append_drop hd.length l
          rw [hp] at this
          exact this.symm
        obtain ⟨rr, hrd, hcase⟩ : ∃ rr, RdAt (l.drop hd.length) rr ∧ ((∃ sts, rr = .made sts ∧ ro = some sts) ∨ ((rr = .many ∨ ∃ k, rr = .part k) ∧ ro = none)) := by
          have same : ∀ {hd' y : List Nat}, headsL[i]? = some hd' → l = hd' ++ y → y = l.drop hd.length := fun {hd' y} h e => by
            rw [eh] at h; cases h; rw [e, List.drop_left]
          cases hro with
          | head h =>
            rcases h with h | h
            · omega
            · exact absurd ex (h hd _ eh)
          | made h e rd => rw [← same h e]; exact ⟨_, rd, .inl ⟨_, rfl, rfl⟩⟩
          | part h e rd => rw [← same h e]; exact ⟨_, rd, .inr ⟨.inr ⟨_, rfl⟩, rfl⟩⟩
          | many h e rd => rw [← same h e]; exact ⟨_, rd, .inr ⟨.inl rfl, rfl⟩⟩
        refine ⟨_, rfl, _, rfl, pl, _, _, _, rfl, rfl, SqL.of y2, hat, _, rfl, _, rfl, hl', _, _, .str (S hd), rfl, rfl, SqL.of x2, at1, S hd, rfl, by rw [S_len, sizeLine_eq]; omega, _, rfl, S l, rfl, by rw [S_len, sizeLine_eq]; omega, ?_⟩
        rw [slice_from (by omega), S_len]
        refine ⟨l.drop hd.length, rr, rfl, by rw [List.length_drop]; omega, hrd, fun t H3 k3 due => ?_⟩
        have z3 := k3 _ _ z2
        rcases hcase with ⟨sts, rfl, rfl⟩ | ⟨hrr, rfl⟩
        · obtain ⟨rw', ht, hrow⟩ := due
          obtain ⟨sts', e', hi4, es⟩ : ∃ sts', some sts = some sts' ∧ i < four.length ∧ four[i]? = some sts' := her.resolve_right fun h => by cases h.1
          cases e'
          refine ⟨_, rfl, t, _, 0, _, rfl, rfl, SqT.of ht, rfl, rfl, false, by decide +kernel, iteF ?_⟩
          refine ⟨_, rfl, .inl ⟨rfl, _, SqL.of z3⟩, _, rfl, t, _, 1, _, rfl, rfl, SqT.of ht, rfl, fl, _, _, rfl, rfl, z3, ?_, ?_⟩
          · rw [List.length_map, rw2.len, List.length_take, sizeLine_eq]; omega
          refine ⟨_, _, rs ++ [rw'], rfl, ?_, ?_, by rw [upd_same, List.map_append]; rfl, by omega, ?_, fun b o e => ?_⟩
          · rw [upd_ne n1.symm]; exact k3 _ _ x2
          · rw [upd_ne n2.symm]; exact k3 _ _ y2
          · rw [List.take_succ, es]
            exact ((rw2.ext k3).ups z3).snoc (hrow.ups z3) (rd_six hrd)
          · rw [upd_ne (ne_of_none e nfl)]; exact k3 _ _ (k2 b o e)
        · rcases hrr with rfl | ⟨k, rfl⟩
          · exact ⟨_, rfl, t, _, 0, _, rfl, rfl, SqT.of due, rfl, rfl, true, by decide +kernel, iteT ⟨_, rfl, by show 2 ≤ sizeLine; decide, fun t2 ht2 => noline rfl _ (k2.trans k3) t2 ht2⟩⟩
          · exact ⟨_, rfl, t, _, 0, _, rfl, rfl, SqT.of due, rfl, rfl, true, by decide +kernel, iteT ⟨_, rfl, by show 2 ≤ sizeLine; decide, fun t2 ht2 => noline rfl _ (k2.trans k3) t2 ht2⟩⟩
      · have hn : ro = none := by
          cases hro with
          | head h => rfl
          | made h e rd => rw [eh] at h; cases h; rw [e, List.take_left] at hp; exact absurd rfl hp
          | part h e rd => rfl
          | many h e rd => rfl
        exact ⟨rfl, true, (by show V.bl (!decide (V.str (S (l.take hd.length)) = V.str (S hd))) = _; rw [dec_S, decide_eq_false hp]; rfl), iteT ⟨_, rfl, by show 2 ≤ sizeLine; decide, fun t ht => noline hn _ k2 t ht⟩⟩
    · rintro σ H2 ⟨u4, u5, rs, rfl, x2, y2, z2, h4, rw2, k2⟩
      have e0 : ((((spl10 x).length : Nat) : Int).toNat) = (spl10 x).length := by omega
      rw [e0] at h4 rw2
      obtain ⟨h5, h6⟩ := he h4
      rw [List.take_of_length_le (Nat.le_of_eq h5)] at rw2
      refine ⟨_, rfl, pl, _, rfl, .inl (SqL.of y2), rfl, _, rfl, ?_⟩
      rw [xsl, ← h5]
      rcases h6 with ⟨h6, er⟩ | ⟨h6, er⟩
      · subst er
        rw [decide_eq_false (show ¬ V.int ((four.length : Nat) : Int) = V.int 4 from fun z => by injection z with z; omega)]
        refine iteF ⟨_, rfl, pl, _, rfl, .inl (SqL.of y2), by show 2 ≤ sizeLine; decide, fun t ht => ?_⟩
        rw [xsl, ← h5]
        exact q t _ (k2.new' ht) upd_same
      · subst er
        rw [decide_eq_true (show V.int ((four.length : Nat) : Int) = V.int 4 by rw [h6]; rfl)]
        refine iteT ⟨_, rfl, by show 2 ≤ sizeLine; decide, fun t ht => ?_⟩
        have kt : Ext H2 (L2.upd H2 t (.tup [.str "made", .ref fl])) := Ext.refl.new ht
        exact q t _ (k2.trans kt) ⟨fl, rs, upd_same, kt _ _ z2, rw2.ext kt⟩
end
end Pd

set_option maxHeartbeats 4000000
namespace Pd
open PySem PySem.Spec PyProof.Rows L2 SX
/-! ### the drawn texts of doors, spoilt -/
structure Tsl (j : Addr) (H : Hp) (pl : Addr) (qs : List (List Nat)) (B : Nat) : Prop where
  at_ : H pl = some (.lst (tvs qs))
  sm : (qs.map (·.length)).sum ≤ B
  nj : pl ≠ j
theorem Tsl.kp {j pl : Addr} {H H' : Hp} {qs : List (List Nat)} {B : Nat} (h : Tsl j H pl qs B) (k : Kp j H H') : Tsl j H' pl qs B := ⟨k pl _ h.nj h.at_, h.sm, h.nj⟩
theorem str_S (z : Str) : z = S z.cps.toList := by
  obtain ⟨⟨l⟩⟩ := z
  rfl
theorem ixN_nat {n i : Nat} (h : i < n) : ixN n ((i : Nat) : Int) = some i := by
  unfold ixN
  have e1 : ¬ ((i : Nat) : Int) < 0 := by omega
  simp [e1, h]
theorem sum_set (qs : List (List Nat)) (i : Nat) (m : List Nat) : ((qs.set i m).map (·.length)).sum ≤ (qs.map (·.length)).sum + m.length := by
  induction qs generalizing i with
  | nil => simp
  | cons q qs ih =>
    cases i with
    | zero => simp; omega
    | succ i =>
      have := ih i
      simp only [List.set_cons_succ, List.map_cons, List.sum_cons]
      omega
theorem tvs_set (qs : List (List Nat)) (i : Nat) (m : List Nat) : (tvs qs).set i (.str (S m)) = tvs (qs.set i m) := by
  unfold tvs
  rw [List.map_set, List.map_set]
theorem sum_take (qs : List (List Nat)) (i : Nat) : ((qs.take i).map (·.length)).sum + ((qs.drop i).map (·.length)).sum = (qs.map (·.length)).sum := by
  rw [← List.sum_append, ← List.map_append, List.take_append_drop]
theorem sum_erase (qs : List (List Nat)) (i : Nat) : ((qs.eraseIdx i).map (·.length)).sum ≤ (qs.map (·.length)).sum := by
  rw [List.eraseIdx_eq_take_drop_succ, List.map_append, List.sum_append]
  have h1 := sum_take qs (i + 1)
  have h2 : ((qs.take i).map (·.length)).sum ≤ ((qs.take (i + 1)).map (·.length)).sum := by
    rw [List.take_succ, List.map_append, List.sum_append]
    omega
  omega
theorem tvs_get {qs : List (List Nat)} {i : Nat} {m : List Nat} (h : qs[i]? = some m) : atI (tvs qs) ((i : Nat) : Int) = some (.str (S m)) := atI_nat (by unfold tvs; rw [List.getElem?_map, List.getElem?_map, h]; rfl)
/-- written texts as lists of signs -/
theorem lit_S {n : Nat} {xs : List V} (h : (xs.all fun z => match z with | .str s => decide (s.cps.toList.length ≤ n) | _ => false) = true) : ∀ z ∈ xs, ∃ m : List Nat, z = .str (S m) ∧ m.length ≤ n := fun z hz => by
  have k := List.all_eq_true.mp h z hz
  cases z with
  | str s => exact ⟨s.cps.toList, congrArg V.str (str_S s), of_decide_eq_true k⟩
  | _ => exact absurd (show false = true from k) Bool.false_ne_true
def spSpoilL : Sp := fun vs H Q _ => ∃ (j : Addr) (n : Nat) (po l : List Nat), vs = [.ref j, .str (S po), .str (S l)] ∧ JarAt H j n ∧ PoolOk po ∧ n + 600 < 1000000 ∧ l.length ≤ 1000 ∧ ∀ m H', m.length ≤ 6000000 → JarAt H' j (n + 600) → Kp j H H' → Q (.str (S m)) H'
section
variable {P : Program} {w : World} {K : PySem.W.Frag} {mg : Str → Option Value} {base : Heap}
theorem ok_spoilL {f : Addr} {fd : FuncData} (F : Fun K "_law_spoilt_lines" "_law_spoilt_lines" sLawSpoiltLines f fd) (T : Nms mg) (D : Cl P w K mg base 1 "_law_draw" spDraw) (GE : Cl P w K mg base 2 "_law_edit" spEdit) (GS : Cl P w K mg base 4 "_law_spoilt" spSpoilt) : FnOk P w K mg base CX0 5 f fd ["well", "pool", "page"] spSpoilL := by
  refine F.ok scLawSpoiltLines (fun vs H Q E h => ?_) (fun cdv A outer s H vs Q E hr h => ?_)
  · obtain ⟨j, n, po, l, rfl, _⟩ := h
    rfl
  · obtain ⟨j, n, po, l, rfl, hJ, hP, hn, hl, q⟩ := h
    have nd := scLawSpoiltLines.nd
    refine ⟨_, C8.pss_cut (ps_set (i := 3) nd rfl (Or.inl rfl) (pe_cl D hr (by decide) rfl (pa_cons (pv 0) (pa_cons pe_int pa_nil))))
      (C8.pss_cut (ps_if (pt_cmpR op_eq (pv 3) pe_int (nomark _)) (pss_one (ps_ret (pe_cl GE hr (by decide) rfl (pa_cons (pv 0) (pa_cons (pv 2) pa_nil))))) pss_nil)
      (C8.pss_cut (ps_set (i := 4) nd rfl (Or.inl rfl) (pe_split (pv 2) pe_str))
      (C8.pss_cut (ps_par (i := 5) (j := 6) (by rfl) nd rfl rfl (by decide) rfl rfl (pa_cons (pe_cl D hr (by decide) rfl (pa_cons (pv 0) (pa_cons (pe_callB call_len_seq (by rfl) T.len PySem.boot_len (pa_cons (pv 4) pa_nil)) pa_nil))) (pa_cons (pe_cl D hr (by decide) rfl (pa_cons (pv 0) (pa_cons (pe_callB call_len_seq (by rfl) T.len PySem.boot_len (pa_cons (pv 4) pa_nil)) pa_nil))) pa_nil)) (by rfl))
      (C8.pss_cut (ps_asg (pe_partition (pe_ix ix_list (pv 4) (pv 5) (fun _ _ => rfl)) pe_str) (pg_tup rfl (pgs_cons (pg_name (i := 7) nd rfl (Or.inl rfl)) (pgs_cons (pg_name (i := 8) nd rfl (Or.inl rfl)) (pgs_cons (pg_name (i := 9) nd rfl (Or.inl rfl)) pgs_nil)))))
      (C8.pss_cut (ps_if (pt_cmpR op_lt (pv 3) pe_int (nomark _))
        (pss_one (ps_asg (pe_op op_add_str (pe_op op_add_str (pv 7) (pv 8)) (pe_cl GS hr (by decide) rfl (pa_cons (pv 0) (pa_cons (pv 1) (pa_cons (pv 9) pa_nil))))) (pg_sub (pv 4) (pv 5) set_list)))
        (pss_one (ps_if (pt_cmpR op_eq (pv 3) pe_int (nomark _))
          (pss_cons (ps_set (i := 10) nd rfl (Or.inl rfl) (pe_ix ix_list (pv 4) (pv 5) (fun _ _ => rfl))) (pss_cons (ps_asg (pe_ix ix_list (pv 4) (pv 6) (fun _ _ => rfl)) (pg_sub (pv 4) (pv 5) set_list)) (pss_one (ps_asg (pv 10) (pg_sub (pv 4) (pv 6) set_list)))))
          (pss_one (ps_if (pt_cmpR op_eq (pv 3) pe_int (nomark _))
            (pss_one (ps_expr (pe_bm PySem.F.plainAttrs_list PySem.F.slot_list_insert PySem.F.type_list_insert mt_insert (pv 4) (pa_cons (pv 5) (pa_cons (pe_ix ix_list (pv 4) (pv 6) (fun _ _ => rfl)) pa_nil)))))
            (pss_one (ps_if (PW.pt (pw_and (pt_cmpR op_eq (pv 3) pe_int (nomark _)) (pw_and1 (pt_cmpR op_gt (pe_callB call_len_seq (by rfl) T.len PySem.boot_len (pa_cons (pv 4) pa_nil)) pe_int (nomark _)))))
              (pss_one (ps_expr (pe_bm PySem.F.plainAttrs_list PySem.F.slot_list_pop PySem.F.type_list_pop mt_popAt (pv 4) (pa_cons (pv 5) pa_nil))))
              (pss_one (ps_if (pt_cmpR op_eq (pv 3) pe_int (nomark _))
                (pss_one (ps_expr (pe_bm PySem.F.plainAttrs_list PySem.F.slot_list_append PySem.F.type_list_append mt_append (pv 4) (pa_cons (pe_ix ix_list (pe_lst (pa_cons pe_str (pa_cons pe_str (pa_cons pe_str (pa_cons pe_str pa_nil))))) (pe_cl D hr (by decide) rfl (pa_cons (pv 0) (pa_cons pe_int pa_nil))) (fun _ _ => rfl)) pa_nil))))
                (pss_cons (ps_set (i := 11) nd rfl (Or.inl rfl) (pe_lst (pa_cons pe_str (pa_cons pe_str (pa_cons pe_str (pa_cons pe_str (pa_cons pe_str (pa_cons pe_str (pa_cons pe_str (pa_cons pe_str (pa_cons pe_str (pa_cons pe_str pa_nil))))))))))))
                  (pss_one (ps_asg (pe_op op_add_str (pe_op op_add_str (pe_ix ix_list (pv 11) (pe_cl D hr (by decide) rfl (pa_cons (pv 0) (pa_cons pe_int pa_nil))) (fun _ _ => rfl)) (pv 8)) (pv 9)) (pg_sub (pv 4) (pv 5) set_list)))))))))))))
      (pss_one (ps_ret (pe_join pe_str (pv 4))))))))), ?_⟩
    obtain ⟨xs0, hx0⟩ := hJ.lst
    refine ⟨fun σ' H' => ∃ wy : Int, σ' = [some (.ref j), some (.str (S po)), some (.str (S l)), some (.int wy), none, none, none, none, none, none, none, none] ∧ JarAt H' j (n + 1) ∧ Kp j H H', ?_, ?_⟩
    · exact ⟨_, rfl, j, 10, n, rfl, hJ, by omega, by decide, by decide, fun r H1 h0 h1 J1 k1 => ⟨r, rfl, J1, k1⟩⟩
    rintro σ1 H1 ⟨wy, rfl, J1, k1⟩
    obtain ⟨xs1, hx1⟩ := J1.lst
    refine ⟨fun σ' H' => σ' = [some (.ref j), some (.str (S po)), some (.str (S l)), some (.int wy), none, none, none, none, none, none, none, none] ∧ H' = H1, ?_, ?_⟩
    · refine ⟨_, rfl, rfl, _, rfl, ite2 (fun _ => ?_) (fun _ => ⟨rfl, rfl⟩)⟩
      exact ⟨_, rfl, _, rfl, j, _, l, rfl, J1, by omega, by omega, fun m H2 hm J2 k2 => q m H2 (by omega) (J2.le (by omega)) (k1.trans k2)⟩
    rintro σ2 H2 ⟨rfl, rfl⟩
    obtain ⟨pls, pln⟩ := l_len (x := l)
    refine ⟨fun σ' H' => ∃ pl, σ' = [some (.ref j), some (.str (S po)), some (.str (S l)), some (.int wy), some (.ref pl), none, none, none, none, none, none, none] ∧ H' pl = some (.lst (tvs (spl10 l))) ∧ H2 pl = none ∧ Ext H2 H', ?_, ?_⟩
    · refine ⟨_, rfl, ⟨_, rfl⟩, _, _, rfl, rfl, by decide +kernel, by rw [S_len, sizeLine_eq]; omega, fun p hp => ⟨p, rfl, ?_, hp, Ext.refl.new hp⟩⟩
      rw [splS10]; exact upd_same
    rintro σ3 H3 ⟨pl, rfl, h3, hpl, k3⟩
    have npj : pl ≠ j := by rintro rfl; rw [hx1] at hpl; cases hpl
    have sm0 : ((spl10 l).map (·.length)).sum ≤ 1001000 := by
      have := sum_le (m := 1000) (xs := spl10 l) fun p hp => by have := pls p hp; omega
      omega
    have T3 : Tsl j H3 pl (spl10 l) 1001000 := ⟨h3, sm0, npj⟩
    have s1 : 1 ≤ (spl10 l).length := by
      cases hh : spl10 l with
      | nil => exact absurd hh (spl_acc l [])
      | cons a r => simp
    have ln : ∀ qs : List (List Nat), (((tvs qs).length : Nat) : Int) = (qs.length : Nat) := fun qs => by rw [tvs_len]
    refine ⟨fun σ' H' => ∃ sp ot : Int, σ' = [some (.ref j), some (.str (S po)), some (.str (S l)), some (.int wy), some (.ref pl), some (.int sp), some (.int ot), none, none, none, none, none] ∧ 0 ≤ sp ∧ sp < ((spl10 l).length : Nat) ∧ 0 ≤ ot ∧ ot < ((spl10 l).length : Nat) ∧ Tsl j H' pl (spl10 l) 1001000 ∧ JarAt H' j (n + 3) ∧ Kp j H2 H', ?_, ?_⟩
    · have J3 := J1.ext k3
      refine ⟨_, rfl, _, rfl, pl, _, rfl, .inl (SqL.of h3), j, _, _, rfl, J3, by omega, by rw [ln]; omega, by rw [ln]; omega, fun sp H4 h40 h41 J4 k4 => ?_⟩
      rw [ln] at h41
      have T4 := T3.kp k4
      refine ⟨_, rfl, _, rfl, pl, _, rfl, .inl (SqL.of T4.at_), j, _, _, rfl, J4, by omega, by rw [ln]; omega, by rw [ln]; omega, fun ot H5 h50 h51 J5 k5 => ?_⟩
      rw [ln] at h51
      exact ⟨_, _, rfl, sp, ot, rfl, h40, h41, h50, h51, T4.kp k5, J5, k3.kp.trans (k4.trans k5)⟩
    rintro σ4 H4 ⟨sp, ot, rfl, sp0, sp1, ot0, ot1, T4, J4, k4⟩
    obtain ⟨sm, rfl⟩ := Int.eq_ofNat_of_zero_le sp0
    obtain ⟨om, rfl⟩ := Int.eq_ofNat_of_zero_le ot0
    have plH : H pl = none := by
      cases z : H pl with
      | none => rfl
      | some o => rw [k1 pl o npj z] at hpl; cases hpl
    obtain ⟨ms, hms⟩ : ∃ m, (spl10 l)[sm]? = some m := ⟨_, List.getElem?_eq_getElem (by omega)⟩
    obtain ⟨mo, hmo⟩ : ∃ m, (spl10 l)[om]? = some m := ⟨_, List.getElem?_eq_getElem (by omega)⟩
    have lms : ms.length ≤ 1000 := by have := pls ms (List.mem_of_getElem? hms); omega
    have lmo : mo.length ≤ 1000 := by have := pls mo (List.mem_of_getElem? hmo); omega
    refine ⟨fun σ' H' => ∃ a b c : List Nat, σ' = [some (.ref j), some (.str (S po)), some (.str (S l)), some (.int wy), some (.ref pl), some (.int (sm : Nat)), some (.int (om : Nat)), some (.str (S a)), some (.str (S b)), some (.str (S c)), none, none] ∧ a.length ≤ 1000 ∧ b.length ≤ 1000 ∧ c.length ≤ 1000 ∧ Ext H4 H', ?_, ?_⟩
    · obtain ⟨f1, f2, f3⟩ := fact_partition (S ms) (" " : Str)
      rw [S_len] at f1 f2 f3
      refine ⟨_, rfl, _, rfl, pl, _, _, .str (S ms), rfl, rfl, SqL.of T4.at_, tvs_get hms, ⟨_, rfl⟩, _, _, rfl, rfl, by decide +kernel, by rw [S_len, sizeLine_eq]; omega, fun t ht => ⟨t, _, rfl, SqT.of upd_same, rfl, _, _, rfl, _, _, rfl, _, _, rfl, rfl, ?_⟩⟩
      refine ⟨(Txt.partition (S ms) " ").1.cps.toList, (Txt.partition (S ms) " ").2.1.cps.toList, (Txt.partition (S ms) " ").2.2.cps.toList, rfl, Nat.le_trans f1 lms, Nat.le_trans f2 lms, Nat.le_trans f3 lms, Ext.refl.new ht⟩
    rintro σ5 H5 ⟨a, b, c, rfl, la, lb, lc, k5⟩
    have T5 := T4.kp k5.kp
    have J5 := J4.ext k5
    have k05 : Kp j H H5 := (k1.trans k4).trans k5.kp
    refine ⟨fun σ' H' => ∃ qs u10 u11, σ' = [some (.ref j), some (.str (S po)), some (.str (S l)), some (.int wy), some (.ref pl), some (.int (sm : Nat)), some (.int (om : Nat)), some (.str (S a)), some (.str (S b)), some (.str (S c)), u10, u11] ∧ Tsl j H' pl qs 5000000 ∧ qs.length ≤ 1100 ∧ JarAt H' j (n + 600) ∧ Kp j H H', ?_, ?_⟩
    · -- a line in its place
      have put : ∀ {H6 : Hp} {qs : List (List Nat)} {i : Nat} {m : List Nat} {B : Nat}, Tsl j H6 pl qs B → i < qs.length → Tsl j (L2.upd H6 pl (.lst ((tvs qs).set i (.str (S m))))) pl (qs.set i m) (B + m.length) := fun {H6 qs i m B} T6 hi =>
        ⟨by rw [upd_same, tvs_set], by have := sum_set qs i m; have := T6.sm; omega, npj⟩
      have jk : ∀ {H6 : Hp} {o : HO} {N : Nat}, JarAt H6 j N → N ≤ n + 600 → JarAt (L2.upd H6 pl o) j (n + 600) := fun {H6 o N} J6 h => (J6.kp (by rw [upd_ne npj.symm])).le h
      have kk : ∀ {H6 : Hp} {o : HO}, Kp j H H6 → Kp j H (L2.upd H6 pl o) := fun {H6 o} k b u nb e => by rw [upd_ne (ne_of_none e plH)]; exact k b u nb e
      have ix : ∀ i : Nat, i < (spl10 l).length → ixN (tvs (spl10 l)).length ((i : Nat) : Int) = some i := fun i h => ixN_nat (by rw [tvs_len]; exact h)
      refine ⟨_, rfl, _, _, rfl, rfl, _, rfl, ite2 (fun _ => ?_) (fun _ => ?_)⟩
      ·
        refine ⟨_, rfl, _, rfl, _, _, rfl, rfl, by rw [S_len, S_len, sizeLine_eq]; omega, ?_⟩
        rw [S_cat]
        refine ⟨_, rfl, _, rfl, _, rfl, j, _, po, c, rfl, J5, hP, by omega, lc, fun m H6 hm J6 k6 => ⟨_, _, rfl, rfl, by rw [S_len, S_len, sizeLine_eq, List.length_append]; omega, ?_⟩⟩
        rw [S_cat]
        have T6 := T5.kp k6
        refine ⟨_, rfl, _, rfl, pl, _, _, sm, rfl, rfl, T6.at_, ix sm (by omega), ?_⟩
        refine ⟨(spl10 l).set sm (a ++ b ++ m), none, none, rfl, ?_, by rw [List.length_set]; omega, jk J6 (by omega), kk (k05.trans k6)⟩
        have z := put (i := sm) (m := a ++ b ++ m) T6 (by omega)
        exact ⟨z.at_, by have := z.sm; rw [List.length_append, List.length_append] at this; omega, npj⟩
      refine ⟨_, rfl, rfl, _, rfl, ite2 (fun _ => ?_) (fun _ => ?_)⟩
      ·
        refine ⟨_, rfl, _, rfl, pl, _, _, .str (S ms), rfl, rfl, SqL.of T5.at_, tvs_get hms, ?_⟩
        refine ⟨_, rfl, _, rfl, pl, _, _, .str (S mo), rfl, rfl, SqL.of T5.at_, tvs_get hmo, _, rfl, _, rfl, pl, _, _, sm, rfl, rfl, T5.at_, ix sm (by omega), ?_⟩
        have T6 := put (i := sm) (m := mo) T5 (by omega)
        rw [tvs_set] at T6 ⊢
        have l6 : ((spl10 l).set sm mo).length = (spl10 l).length := List.length_set ..
        refine ⟨_, rfl, _, rfl, _, rfl, pl, _, _, om, rfl, rfl, T6.at_, ixN_nat (by rw [tvs_len, l6]; omega), ?_⟩
        refine ⟨((spl10 l).set sm mo).set om ms, _, none, rfl, ?_, by rw [List.length_set, l6]; omega, jk (jk J5 (by omega)) (Nat.le_refl _), kk (kk k05)⟩
        have z := put (i := om) (m := ms) T6 (by omega)
        exact ⟨z.at_, by have := z.sm; omega, npj⟩
      refine ⟨_, rfl, rfl, _, rfl, ite2 (fun _ => ?_) (fun _ => ?_)⟩
      ·
        refine ⟨_, rfl, .inl ⟨rfl, _, SqL.of T5.at_⟩, _, rfl, _, rfl, _, rfl, pl, _, _, .str (S mo), rfl, rfl, SqL.of T5.at_, tvs_get hmo, ?_⟩
        refine ⟨pl, tvs (spl10 l), (sm : Nat), .str (S mo), rfl, rfl, T5.at_, by rw [tvs_len, sizeLine_eq]; omega, by omega, by omega, (spl10 l).take sm ++ [mo] ++ (spl10 l).drop sm, none, none, rfl, ⟨?_, ?_, npj⟩, ?_, jk J5 (by omega), kk k05⟩
        · rw [upd_same]
          show _ = some (HO.lst (tvs _))
          rw [tvs_app, tvs_app]
          unfold tvs
          rw [List.map_take, List.map_take, List.map_drop, List.map_drop]; rfl
        · rw [List.map_append, List.map_append, List.sum_append, List.sum_append]
          have := sum_take (spl10 l) sm
          show _ + (mo.length + 0) + _ ≤ _
          omega
        · rw [List.length_append, List.length_append, List.length_take, List.length_drop]
          show _ + 1 + _ ≤ 1100; omega
      have rest : ∃ x : Nat, x = 0 := ⟨0, rfl⟩
      refine ⟨_, rfl, rfl, _, rfl, ite2 (fun _ => ⟨_, rfl, pl, _, rfl, .inl (SqL.of T5.at_), _, _, rfl, rfl, _, rfl, ite2 (fun hgt => ?pop) (fun _ => ?_)⟩) (fun _ => ?_)⟩
      case pop =>
        rw [tvs_len] at hgt
        refine ⟨_, rfl, .inl ⟨rfl, _, SqL.of T5.at_⟩, _, rfl, pl, tvs (spl10 l), (sm : Nat), sm, .str (S ms), rfl, rfl, T5.at_, by omega, by omega, ?_, by unfold tvs; rw [List.getElem?_map, List.getElem?_map, hms]; rfl, ?_⟩
        · rw [tvs_len]
          unfold seqIndex?
          have e1 : ¬ ((sm : Nat) : Int) < 0 := by omega
          simp only [e1, if_false]
          rw [if_pos (by rw [Bool.and_eq_true]; exact ⟨decide_eq_true (by omega), decide_eq_true (by omega)⟩)]
          rfl
        refine ⟨(spl10 l).eraseIdx sm, none, none, rfl, ⟨?_, ?_, npj⟩, ?_, jk J5 (by omega), kk k05⟩
        · rw [upd_same]
          show _ = some (HO.lst (tvs _))
          unfold tvs
          rw [List.eraseIdx_eq_take_drop_succ, List.eraseIdx_eq_take_drop_succ, List.map_append, List.map_append, List.map_take, List.map_take, List.map_drop, List.map_drop]
        · have := sum_erase (spl10 l) sm; omega
        · have := List.length_eraseIdx_le (spl10 l) sm; omega
      all_goals
        refine ⟨_, rfl, rfl, _, rfl, ite2 (fun _ => ?_) (fun _ => ?_)⟩
        ·
          refine ⟨_, rfl, .inl ⟨rfl, _, SqL.of T5.at_⟩, by show 4 ≤ sizeLine; decide, fun la hla => ?_⟩
          obtain ⟨H7, z7⟩ : ∃ H', H' = L2.upd H5 la (.lst [.str "", .str "wish: plain", .str "more: lower", .str " "]) := ⟨_, rfl⟩
          rw [← z7]
          have k7 : Ext H5 H7 := by rw [z7]; exact Ext.refl.new hla
          have x7 : H7 la = some (.lst [.str "", .str "wish: plain", .str "more: lower", .str " "]) := by rw [z7]; exact upd_same
          have laj : la ≠ j := by
            obtain ⟨xs5, hx5⟩ := J5.lst
            rintro rfl; rw [hx5] at hla; cases hla
          refine ⟨_, rfl, j, 4, _, rfl, J5.ext k7, by omega, by decide, by decide, fun r H8 h0 h1 J8 k8 => ?_⟩
          obtain ⟨z, hz, ez⟩ := at_in (xs := [.str "", .str "wish: plain", .str "more: lower", .str " "]) h0 (by show r < 4; omega)
          obtain ⟨m, rfl, lm⟩ := lit_S (n := 20) (by decide +kernel) z hz
          have T8 := (T5.kp k7.kp).kp k8
          refine ⟨la, _, r, _, rfl, rfl, SqL.of (k8 _ _ laj x7), ez, pl, _, _, rfl, rfl, T8.at_, by rw [tvs_len, sizeLine_eq]; omega, ?_⟩
          refine ⟨spl10 l ++ [m], none, none, rfl, ⟨by rw [upd_same, tvs_app]; rfl, ?_, npj⟩, by rw [List.length_append]; show _ + 1 ≤ 1100; omega, jk J8 (by omega), kk ((k05.trans k7.kp).trans k8)⟩
          rw [List.map_append, List.sum_append]
          show _ + (m.length + 0) ≤ _
          omega
        ·
          refine ⟨by show 10 ≤ sizeLine; decide, fun la hla => ?_⟩
          obtain ⟨H7, z7⟩ : ∃ H', H' = L2.upd H5 la (.lst [.str "put:", .str "find:", .str "strike:", .str "wish:", .str "Put:", .str "put", .str "take:", .str "", .str " put:", .str "put: "]) := ⟨_, rfl⟩
          rw [← z7]
          have k7 : Ext H5 H7 := by rw [z7]; exact Ext.refl.new hla
          have x7 : H7 la = some (.lst [.str "put:", .str "find:", .str "strike:", .str "wish:", .str "Put:", .str "put", .str "take:", .str "", .str " put:", .str "put: "]) := by rw [z7]; exact upd_same
          have laj : la ≠ j := by
            obtain ⟨xs5, hx5⟩ := J5.lst
            rintro rfl; rw [hx5] at hla; cases hla
          refine ⟨_, rfl, _, rfl, j, 10, _, rfl, J5.ext k7, by omega, by decide, by decide, fun r H8 h0 h1 J8 k8 => ?_⟩
          obtain ⟨z, hz, ez⟩ := at_in (xs := [.str "put:", .str "find:", .str "strike:", .str "wish:", .str "Put:", .str "put", .str "take:", .str "", .str " put:", .str "put: "]) h0 (by show r < 10; omega)
          obtain ⟨m, rfl, lm⟩ := lit_S (n := 20) (by decide +kernel) z hz
          have T8 := (T5.kp k7.kp).kp k8
          refine ⟨la, _, r, _, rfl, rfl, SqL.of (k8 _ _ laj x7), ez, _, rfl, _, _, rfl, rfl, by rw [S_len, S_len, sizeLine_eq]; omega, ?_⟩
          rw [S_cat]
          refine ⟨_, rfl, _, _, rfl, rfl, by rw [S_len, S_len, sizeLine_eq, List.length_append]; omega, ?_⟩
          rw [S_cat]
          refine ⟨_, rfl, _, rfl, pl, _, _, sm, rfl, rfl, T8.at_, ix sm (by omega), ?_⟩
          refine ⟨(spl10 l).set sm (m ++ b ++ c), none, _, rfl, ?_, by rw [List.length_set]; omega, jk J8 (by omega), kk ((k05.trans k7.kp).trans k8)⟩
          have z := put (i := sm) (m := m ++ b ++ c) T8 (by omega)
          exact ⟨z.at_, by have := z.sm; rw [List.length_append, List.length_append] at this; omega, npj⟩
    rintro σ6 H6 ⟨qs, u10, u11, rfl, T6, hq, J6, k6⟩
    have hs : ((qs.map S).map (·.length)).sum ≤ 5000000 := by rw [sum_S]; exact T6.sm
    refine ⟨⟨_, rfl⟩, _, rfl, _, pl, qs.map S, rfl, rfl, .inl (SqL.of T6.at_), ?_, ?_⟩
    · have e : ("\n" : Str).length = 1 := by decide +kernel
      rw [e, List.length_map]; omega
    rw [nl_S, join_S]
    refine q _ H6 ?_ J6 k6
    have h1 := joinL_len [10] qs
    rw [sum_S] at hs
    have : qs.length * ([10] : List Nat).length ≤ 1100 := by show qs.length * 1 ≤ _; omega
    omega
end
end Pd

set_option maxHeartbeats 4000000
namespace Pd
open PySem PySem.Spec PyProof.Rows L2 SX PySem.OEX
theorem takesNone {X : Cx} : Takes X (fun _ _ _ _ => False) := fun _ _ x => by
  obtain ⟨_, _, _, _, _, _, _, _, _, _, _, _, _, _, _, _, z⟩ := x
  exact z.elim
theorem block_ex {X : Cx} {α : Type} {sts : List Stmt} {t : α → TS} {p : α → Prop} (h : ∀ x, p x → PSs X sts (t x)) : PSs X sts (fun D σ H => ∃ x, p x ∧ t x D σ H) := by
  constructor
  intro pins s σ H D I ⟨x, hp, q⟩
  exact (h x hp).run pins s σ H D I q
theorem sm_two {K : PySem.W.Frag} {H : Hp} {r r' : Addr} {sts : List Stp} (h : RowQ K H r sts) (h' : RowQ K H r' sts) (h6 : sts.length ≤ 6) : Sm K H 2 (.ref r) (.ref r') := by
  obtain ⟨ps, hp, al⟩ := h
  obtain ⟨ps', hp', al'⟩ := h'
  refine .tup hp hp' (by rw [List.length_map, List.length_map, al.len, al'.len]) (by rw [List.length_map, al.len]; omega) fun i x y e1 e2 => ?_
  rw [List.getElem?_map] at e1 e2
  obtain ⟨p, hp1, rfl⟩ := Option.map_eq_some_iff.mp e1
  obtain ⟨p', hp2, rfl⟩ := Option.map_eq_some_iff.mp e2
  obtain ⟨st, z1, hst, _⟩ := al.get hp1
  obtain ⟨st', z2, hst', _⟩ := al'.get hp2
  rw [z1] at z2; cases z2
  refine .tup hst.seq hst'.seq rfl (by cases st <;> simp [stpVals]) fun i x y e1 e2 => ?_
  rw [e1] at e2
  cases e2
  have key : ∀ v ∈ stpVals st, Sm K H 0 v v := by
    intro v hv
    cases st <;> simp [stpVals] at hv <;> (try rcases hv with rfl | rfl | rfl) <;> (try rcases hv with rfl | rfl) <;> (try subst hv) <;> first | exact .str _ | exact .int _
  exact key x (List.mem_of_getElem? e1)
def spWhole : Sp := fun vs H Q _ => ∃ i : Int, vs = [.int i, .int i] ∧ Q (.bl true) H
/-- what the law asks of reading doors and its error -/
structure DdW (P : Program) (w : World) (K : PySem.W.Frag) (mg : Str → Option Value) (base : Heap) (C CD CL CQ CP : Addr) : Prop where
  rd : ∃ (g : Addr) (fd : FuncData), FnOk P w K mg base (L2.CX P w) 8 g fd ["text"] (spReadD K C CD CL) ∧ mg "read_doors" = some (.ref g) ∧ PySem.W.keepIn K (.ref g) = true ∧ Binds K fd ["text"] [] ∧ KBn K fd ["text"] 0 ["text"] (fun us ws => us ++ ws) (fun xs ys => xs ++ ys)
  gD : mg "Doors" = some (.ref CD)
  ic : C8.InsC K CD
  gL : mg "NoLine" = some (.ref CL)
  gQ : mg "NoPart" = some (.ref CQ)
  gP : mg "PlainError" = some (.ref CP)
  gV : mg "ValueError" = none
  eLP : PySem.W.exmOne K (.ref CL) (.ref CP) = some true
  eLL : PySem.W.exmOne K (.ref CL) (.ref CL) = some true
  ecL : ExcC K CL
  xcL : XfC K CL
  ixL : PySem.W.findIn K (.ref CL) "line" = some none
  vL : PySem.W.kitOne K (.ref CL) (.type "ValueError") = some true
  kLL : PySem.W.kitOne K (.ref CL) (.ref CL) = some true
  kLQ : PySem.W.kitOne K (.ref CL) (.ref CQ) = some false
/-- a value and what reading it comes to -/
def RdD (K : PySem.W.Frag) (H : Hp) (v : V) (r : Dn) : Prop := ((∀ H', Ext H H' → NoStr K H' v) ∧ r = .line 0) ∨ ∃ x, v = .str (S x) ∧ x.length ≤ 1000 ∧ DnAt x r
theorem RdD.ext {K : PySem.W.Frag} {H H' : Hp} {v : V} {r : Dn} (h : RdD K H v r) (k : Ext H H') : RdD K H' v r := by
  rcases h with ⟨h, e⟩ | h
  · exact .inl ⟨fun H2 k2 => h H2 (k.trans k2), e⟩
  · exact .inr h
theorem RdD.ask {K : PySem.W.Frag} {H : Hp} {v : V} {r : Dn} {C CD CL : Addr} {Q : VK} {E : XK} (h : RdD K H v r) (q : DnQ K C CD CL H Q E r) : spReadD K C CD CL [v] H Q E := by
  rcases h with ⟨h, rfl⟩ | ⟨x, rfl, hl, hr⟩
  · exact ⟨v, rfl, .inl ⟨h H .refl, q⟩⟩
  · exact ⟨_, rfl, .inr ⟨x, r, rfl, hl, hr, q⟩⟩
def TrD (K : PySem.W.Frag) (C CD : Addr) (H : Hp) (t : Addr) : Dn → Prop
  | .made four => ∃ u d, H t = some (.tup [.ref u, .ref d]) ∧ H u = some (.tup [.str "made"]) ∧ DrQ K C CD H d four
  | .line k => ∃ u, H t = some (.tup [.ref u, .non]) ∧ H u = some (.tup [.str "line", .int (k : Nat)])
def spTriedD (K : PySem.W.Frag) (C CD : Addr) : Sp := fun vs H Q _ => ∃ v r, vs = [v] ∧ RdD K H v r ∧ ∀ t H', Ext H H' → TrD K C CD H' t r → Q (.ref t) H'
def spClassD (K : PySem.W.Frag) : Sp := fun vs H Q _ => ∃ v k, vs = [v] ∧ RdD K H v (.line k) ∧ ∀ t H', Ext H H' → H' t = some (.tup [.bl true, .bl true, .bl false]) → Q (.ref t) H'
def spRightD (K : PySem.W.Frag) : Sp := fun vs H Q _ => ∃ v r t, vs = [v, .ref t] ∧ RdD K H v r ∧ DueD K H t r ∧ ∀ H', Ext H H' → Q (.bl true) H'
section
variable {P : Program} {w : World} {K : PySem.W.Frag} {mg : Str → Option Value} {base : Heap}
theorem ok_whole {f : Addr} {fd : FuncData} (F : Fun K "_law_whole" "_law_whole" sLawWhole f fd) (T : Nms mg) : FnOk P w K mg base CX0 1 f fd ["actual", "expected"] spWhole := by
  refine F.ok scLawWhole (fun vs H Q E h => ?_) (fun cdv A outer s H vs Q E hr h => ?_)
  · obtain ⟨i, rfl, _⟩ := h
    rfl
  · obtain ⟨i, rfl, q⟩ := h
    refine ⟨_, pss_one (ps_ret (pe_and (pe_callB call_isi (by rfl) T.isi (by decide +kernel) (pa_cons (pv 0) (pa_cons (pe_bltn (v := .ty "int") (by rfl) T.int (by decide +kernel) rfl) pa_nil)))
      (pe_and (pe_not (pe_callB call_isi (by rfl) T.isi (by decide +kernel) (pa_cons (pv 0) (pa_cons (pe_bltn (v := .ty "bool") (by rfl) T.bool (by decide +kernel) rfl) pa_nil)))) (pe_one (pe_cmpR op_eq (pv 0) (pv 1) (nomark _)))))), ?_⟩
    refine ⟨_, rfl, _, _, _, _, true, rfl, .ty "int", .base (.int i), kit_ty (by decide +kernel), true, rfl, iteT ?_⟩
    refine ⟨_, rfl, _, _, _, _, false, rfl, .ty "bool", .base (.int i), kit_ty (by decide +kernel), false, rfl, true, rfl, iteT ⟨_, rfl, _, rfl, rfl, ?_⟩⟩
    rw [decide_eq_true rfl]; exact q
theorem ok_triedD {f Cf CD CL CQ CP : Addr} {fd : FuncData} (F : Fun K "_law_tried" "_law_tried" sLawTried f fd) (T : Nms mg) (X : DdW P w K mg base Cf CD CL CQ CP) : FnOk P w K mg base CX0 9 f fd ["page"] (spTriedD K Cf CD) := by
  refine F.ok scLawTried (fun vs H Q E h => ?_) (fun cdv A outer s H vs Q E hr h => ?_)
  · obtain ⟨v, r, rfl, _⟩ := h
    rfl
  · obtain ⟨v, r, rfl, hv, q⟩ := h
    have nd := scLawTried.nd
    obtain ⟨gr, fdr, FR, mR, kR, bR, _⟩ := X.rd
    refine ⟨_, C8.pss_cut (ps_asg (pe_tup (pa_cons (pe_tup (pa_cons pe_str pa_nil)) (pa_cons pe_non pa_nil))) (pg_tup rfl (pgs_cons (pg_name (i := 1) nd rfl (Or.inl rfl)) (pgs_cons (pg_name (i := 2) nd rfl (Or.inl rfl)) pgs_nil))))
      (pss_cons (ps_try_named (i := 3) (tb := fun W => tAsg (tCallS (spReadD K Cf CD CL) (WE W) (tCons (tVar 0) tNil)) (gName 2))
          (l := [(.ref CL, fun a cls d => fun D σ H => ∃ dd, (cls = .ref CL ∧ d = some dd) ∧ tAsg (tTup (tCons (tC (.str "line")) (tCons (tXf a (.ref CL) (some dd) CL "line" (tVar 3)) tNil))) (gName 1) D σ H)])
          (Wout := fun _ _ _ _ => False) rfl rfl nd rfl rfl takesNone
        (fun W pn xe tk _ => pss_one (ps_set (i := 2) nd rfl (Or.inl rfl) (pe_callS FR hr rfl mR kR bR (fun σ => passAt tk σ) (pa_cons (pv 0) pa_nil))))
        (.cons ⟨rfl, by decide, Or.inl X.gL⟩ (fun a oe cls d pn hz hf => block_ex fun dd ⟨e1, e2⟩ => by
          subst e1 e2
          exact pss_one (ps_set (i := 1) nd rfl (Or.inl rfl) (pe_tup (pa_cons pe_str (pa_cons (pe_xf X.xcL X.ixL hz hf (pv 3)) pa_nil))))) .nil))
      (pss_one (ps_ret (pe_tup (pa_cons (pv 1) (pa_cons (pv 2) pa_nil)))))), ?_⟩
    refine ⟨fun σ' H' => ∃ u, σ' = [some v, some (.ref u), some .non, none] ∧ H' u = some (.tup [.str "made"]) ∧ Ext H H', ?_, ?_⟩
    · refine ⟨by show 1 ≤ sizeLine; decide, fun u hu => ⟨by show 2 ≤ sizeLine; decide, fun t ht => ?_⟩⟩
      have ku : Ext H (L2.upd H u (.tup [.str "made"])) := Ext.refl.new hu
      have kt : Ext (L2.upd H u (.tup [.str "made"])) (L2.upd (L2.upd H u (.tup [.str "made"])) t (.tup [.ref u, .non])) := Ext.refl.new ht
      exact ⟨t, _, rfl, SqT.of upd_same, rfl, _, _, rfl, _, _, rfl, rfl, u, rfl, kt u _ upd_same, ku.trans kt⟩
    rintro σ1 H1 ⟨u, rfl, hu, k1⟩
    refine ⟨_, rfl, (hv.ext k1).ask ?_⟩
    cases r with
    | made four =>
      intro d H2 k2 F2
      refine ⟨_, rfl, _, rfl, by show 2 ≤ sizeLine; decide, fun t ht => ?_⟩
      have kt : Ext H2 (L2.upd H2 t (.tup [.ref u, .ref d])) := Ext.refl.new ht
      exact q t _ ((k1.trans k2).trans kt) ⟨u, d, upd_same, kt u _ (k2 u _ hu), F2.ext kt⟩
    | line k =>
      intro e H2 he k2 hx2
      refine ⟨true, X.eLL, fun _ a ha => ⟨e, ⟨rfl, rfl⟩, ?_⟩, fun q => Bool.noConfusion q⟩
      refine ⟨_, rfl, rfl, rfl, e, _, .int (k : Nat), rfl, hx2, rfl, by show 2 ≤ sizeLine; decide, fun s hs => ?_⟩
      have ks : Ext H2 (L2.upd H2 s (.tup [.str "line", .int (k : Nat)])) := Ext.refl.new hs
      refine ⟨_, rfl, _, rfl, by show 2 ≤ sizeLine; decide, fun t ht => ?_⟩
      have kt : Ext (L2.upd H2 s (.tup [.str "line", .int (k : Nat)])) (L2.upd (L2.upd H2 s (.tup [.str "line", .int (k : Nat)])) t (.tup [.ref s, .non])) := Ext.refl.new ht
      exact q t _ (((k1.trans k2).trans ks).trans kt) ⟨s, upd_same, kt s _ upd_same⟩
theorem ok_classD {f Cf CD CL CQ CP : Addr} {fd : FuncData} (F : Fun K "_law_classes" "_law_classes" sLawClasses f fd) (T : Nms mg) (X : DdW P w K mg base Cf CD CL CQ CP) : FnOk P w K mg base CX0 9 f fd ["page"] (spClassD K) := by
  refine F.ok scLawClasses (fun vs H Q E h => ?_) (fun cdv A outer s H vs Q E hr h => ?_)
  · obtain ⟨v, r, rfl, _⟩ := h
    rfl
  · obtain ⟨v, k, rfl, hv, q⟩ := h
    have nd := scLawClasses.nd
    obtain ⟨gr, fdr, FR, mR, kR, _, bR⟩ := X.rd
    refine ⟨_, C8.pss_cut (ps_set (i := 1) nd rfl (Or.inl rfl) (pe_tup pa_nil))
      (pss_cons (ps_try_as (i := 2) (tb := fun W => tDrop (tCallKX 1 (spReadD K Cf CD CL) (fun xs ys => xs ++ ys) (WE W) (tCons (tVar 0) tNil)))
          (ts := fun a cls d => fun D σ H => ∃ dd, (cls = .ref CL ∧ d = some dd) ∧ tAsg (tTup (tCons (tCB (rIsD K CL a dd) (tCons (tVar 2) (tCons (tC (.ty "ValueError")) tNil))) (tCons (tCB (rIsD K CL a dd) (tCons (tVar 2) (tCons (tC (.ref CL)) tNil))) (tCons (tCB (rIsD K CL a dd) (tCons (tVar 2) (tCons (tC (.ref CQ)) tNil))) tNil)))) (gName 1) D σ H)
          (Wout := fun _ _ _ _ => False) rfl rfl nd rfl rfl ⟨rfl, by decide, Or.inl X.gP⟩ takesNone
        (fun W pn xe tk _ => pss_one (ps_expr (pe_callKX FR (hr.mono (by decide)) (by rfl) mR kR bR (fun σ => passAt tk σ) (pk_cons (pv 0) pk_nil))))
        (fun a oe cls d pn hz hf => block_ex fun dd ⟨e1, e2⟩ => by
          subst e1 e2
          exact pss_one (ps_set (i := 1) nd rfl (Or.inl rfl) (pe_tup (pa_cons (pe_callB (call_isD X.ecL hz hf) (by rfl) T.isi (by decide +kernel) (pa_cons (pv 2) (pa_cons (pe_bltn (v := .ty "ValueError") (by rfl) X.gV (by decide +kernel) rfl) pa_nil)))
            (pa_cons (pe_callB (call_isD X.ecL hz hf) (by rfl) T.isi (by decide +kernel) (pa_cons (pv 2) (pa_cons (pe_glob (v := .ref CL) rfl X.gL rfl) pa_nil)))
            (pa_cons (pe_callB (call_isD X.ecL hz hf) (by rfl) T.isi (by decide +kernel) (pa_cons (pv 2) (pa_cons (pe_glob (v := .ref CQ) rfl X.gQ rfl) pa_nil))) pa_nil)))))))
      (pss_one (ps_ret (pv 1)))), ?_⟩
    refine ⟨fun σ' H' => ∃ u, σ' = [some v, some (.ref u), none] ∧ Ext H H', ?_, ?_⟩
    · exact ⟨by show 0 ≤ sizeLine; decide, fun u hu => ⟨u, rfl, Ext.refl.new hu⟩⟩
    rintro σ1 H1 ⟨u, rfl, k1⟩
    refine ⟨_, rfl, rfl, (hv.ext k1).ask ?_⟩
    intro e H2 he k2 hx2
    refine ⟨true, X.eLP, fun _ a ha => ⟨e, ⟨rfl, rfl⟩, ?_⟩, fun q => Bool.noConfusion q⟩
    refine ⟨_, rfl, .ty "ValueError", .type "ValueError", true, _, rfl, hx2, fun u r => r, X.vL, ?_⟩
    refine ⟨_, rfl, .ref CL, .ref CL, true, _, rfl, hx2, fun u r => r, X.kLL, ?_⟩
    refine ⟨_, rfl, .ref CQ, .ref CQ, false, _, rfl, hx2, fun u r => r, X.kLQ, by show 3 ≤ sizeLine; decide, fun t ht => ?_⟩
    exact ⟨_, rfl, q t _ ((k1.trans k2).new' ht) upd_same⟩
end
end Pd

set_option maxHeartbeats 4000000
namespace Pd
open PySem PySem.Spec PyProof.Rows L2 SX PySem.OEX
section
variable {P : Program} {w : World} {K : PySem.W.Frag} {mg : Str → Option Value} {base : Heap}
theorem ok_rightD {f Cf CD CL CQ CP : Addr} {fd : FuncData} (F : Fun K "_law_right" "_law_right" sLawRight f fd) (T : Nms mg) (X : DdW P w K mg base Cf CD CL CQ CP) (Zf : Fcl K mg Cf) (Y : Drs P w K mg base CD) (fs : ∃ (g : Addr) (fd : FuncData), Meth K Cf "steps" g ∧ FnOk P w K mg base CX0 1 g fd ["self"] (spFStepsQ K Cf) ∧ Binds K fd ["self"] [])
    (GT : Cl P w K mg base 9 "_law_tried" (spTriedD K Cf CD)) (GC : Cl P w K mg base 9 "_law_classes" (spClassD K)) (GW : Cl P w K mg base 1 "_law_whole" spWhole) (GS : Cl P w K mg base 4 "_law_same" (spSame K 3)) : FnOk P w K mg base CX0 10 f fd ["page", "due"] (spRightD K) := by
  refine F.ok scLawRight (fun vs H Q E h => ?_) (fun cdv A outer s H vs Q E hr h => ?_)
  · obtain ⟨v, r, t, rfl, _⟩ := h
    rfl
  · obtain ⟨v, r, t, rfl, hv, hd, q⟩ := h
    have nd := scLawRight.nd
    obtain ⟨gs, fds, ms, FS, bS⟩ := fs
    obtain ⟨g1, fd1, m1, F1, b1⟩ := Y.put
    obtain ⟨g2, fd2, m2, F2, b2⟩ := Y.find
    obtain ⟨g3, fd3, m3, F3, b3⟩ := Y.strike
    obtain ⟨g4, fd4, m4, F4, b4⟩ := Y.wish
    have hr1 := hr.mono (show 1 ≤ 9 by decide)
    refine ⟨_, C8.pss_cut (ps_asg (pe_cl GT hr (by decide) rfl (pa_cons (pv 0) pa_nil)) (pg_tup rfl (pgs_cons (pg_name (i := 2) nd rfl (Or.inl rfl)) (pgs_cons (pg_name (i := 3) nd rfl (Or.inl rfl)) pgs_nil))))
      (pss_cons (ps_if (pt_cmpR op_ne (pe_ix ix_tup (pv 2) pe_int (fun _ _ => rfl)) (pe_ix ix_tup (pv 1) pe_int (fun _ _ => rfl)) (nomark _)) pss_never pss_nil)
      (pss_cons (ps_if (pt_cmpR op_eq (pe_ix ix_tup (pv 1) pe_int (fun _ _ => rfl)) pe_str (nomark _)) (pss_one (ps_ret (pe_and (pe_cl GW hr (by decide) rfl (pa_cons (pe_ix ix_tup (pv 2) pe_int (fun _ _ => rfl)) (pa_cons (pe_ix ix_tup (pv 1) pe_int (fun _ _ => rfl)) pa_nil)))
          (pe_one (pe_cmpR (op_eqD hr.units) (pe_cl GC hr (by decide) rfl (pa_cons (pv 0) pa_nil)) (pe_tup (pa_cons pe_bl (pa_cons pe_bl (pa_cons pe_bl pa_nil)))) (nomark _)))))) pss_nil)
      (pss_cons (ps_if (pt_not (pt_val (pe_callB call_isi (by rfl) T.isi (by decide +kernel) (pa_cons (pv 3) (pa_cons (pe_glob (v := .ref CD) rfl X.gD rfl) pa_nil))))) pss_never pss_nil)
      (C8.pss_cut (ps_set (i := 4) nd rfl (Or.inl rfl) (pe_lst (pa_cons (pe_meth0 (pv 3) Y.z.cl m1 F1 hr1 b1 .nil pass0) (pa_cons (pe_meth0 (pv 3) Y.z.cl m2 F2 hr1 b2 .nil pass0) (pa_cons (pe_meth0 (pv 3) Y.z.cl m3 F3 hr1 b3 .nil pass0) (pa_cons (pe_meth0 (pv 3) Y.z.cl m4 F4 hr1 b4 .nil pass0) pa_nil))))))
      (pss_one (ps_ret (pe_cl GS hr (by decide) rfl (pa_cons (pe_callTy call_tuple_of (by rfl) T.tuple (by decide +kernel) (pa_cons (pe_lc (own := [("one", 5)]) (g := gName 5) (tt := tYes) rfl nd (pi_list (pv 4)) (blkOk_by (N := ["page", "due", "found", "result", "told", "one"]) (sc := defScope sLawRight) (by decide +kernel)) (fun _ _ _ _ _ => pg_name (i := 5) nd rfl (Or.inl rfl)) (fun _ _ _ _ _ => pts_nil)
          (fun _ _ _ _ _ => pe_meth0 (pv 5) Zf.cl ms FS hr1 bS .nil pass0)) pa_nil)) (pa_cons (pe_callTy call_tuple_of (by rfl) T.tuple (by decide +kernel) (pa_cons (pe_ix ix_tup (pv 1) pe_int (fun _ _ => rfl)) pa_nil)) pa_nil))))))))), ?_⟩
    have ne : ∀ {a b : Str}, V.str a ≠ V.str b → decide (V.str a = V.str b) = false := fun h => decide_eq_false h
    have n1 : V.str "made" ≠ V.str "line" := by decide +kernel
    have dB : ∀ {a : Addr} {H' : Hp} {x y z : Bool}, H' a = some (.tup [.bl x, .bl y, .bl z]) → Dp K H' (.ref a) (.tuple [.bool x, .bool y, .bool z]) := fun e => .tup (SqT.of e) (.cons (.bl _) (.cons (.bl _) (.cons (.bl _) .nil)))
    cases r with
    | made four =>
      obtain ⟨fl, rs, ht, hfl, hrw⟩ := hd
      refine ⟨fun σ' H' => ∃ u d, σ' = [some v, some (.ref t), some (.ref u), some (.ref d), none, none] ∧ H' u = some (.tup [.str "made"]) ∧ DrQ K Cf CD H' d four ∧ Ext H H', ?_, ?_⟩
      · exact ⟨_, rfl, v, .made four, rfl, hv, fun t2 H2 k2 ⟨u, d, h1, h2, D2⟩ => ⟨t2, _, rfl, SqT.of h1, rfl, _, _, rfl, _, _, rfl, rfl, u, d, rfl, h2, D2, k2⟩⟩
      rintro σ1 H1 ⟨u, d, rfl, hu, D1, k1⟩
      have ht1 := k1 t _ ht
      refine ⟨_, rfl, u, _, 0, _, rfl, rfl, SqT.of hu, at0, _, rfl, t, _, 0, _, rfl, rfl, SqT.of ht1, at0, rfl, _, rfl, ?_⟩
      rw [decide_eq_true rfl]
      refine iteF ?_
      refine ⟨_, rfl, t, _, 0, _, rfl, rfl, SqT.of ht1, at0, rfl, _, rfl, ?_⟩
      rw [ne n1]
      refine iteF ?_
      obtain ⟨o1, o2, o3, o4, ⟨dx, e⟩, fo⟩ := D1
      refine ⟨_, rfl, _, _, .ref CD, .ref CD, true, rfl, .own CD, .base (.ins e X.ic.cl X.ic.ha X.ic.hn X.ic.htk X.ic.hm), X.ic.me, true, rfl, iteF ?_⟩
      refine ⟨fun σ' H' => ∃ tl, σ' = [some v, some (.ref t), some (.ref u), some (.ref d), some (.ref tl), none] ∧ H' tl = some (.lst [.ref o1, .ref o2, .ref o3, .ref o4]) ∧ Ext H1 H', ?_, ?_⟩
      · refine ⟨_, rfl, d, dx, _, rfl, e, rfl, d, dx, _, .ref o1, rfl, e, rfl, ?_⟩
        refine ⟨_, rfl, d, dx, _, rfl, e, rfl, d, dx, _, .ref o2, rfl, e, rfl, ?_⟩
        refine ⟨_, rfl, d, dx, _, rfl, e, rfl, d, dx, _, .ref o3, rfl, e, rfl, ?_⟩
        refine ⟨_, rfl, d, dx, _, rfl, e, rfl, d, dx, _, .ref o4, rfl, e, rfl, ?_⟩
        exact ⟨by show 4 ≤ sizeLine; decide, fun tl htl => ⟨tl, rfl, upd_same, Ext.refl.new htl⟩⟩
      rintro σ2 H2 ⟨tl, rfl, htl, k2⟩
      have fo2 := fo.ext k2
      have ht2 := k2 _ _ ht1
      have hfl2 := k2 _ _ (k1 _ _ hfl)
      have hrw2 : RwQ K H2 rs four := hrw.ext (k1.trans k2)
      cases fo2 with
      | @cons _ r1 s1 _ _ f1 fo2 =>
      cases fo2 with
      | @cons _ r2 s2 _ _ f2 fo2 =>
      cases fo2 with
      | @cons _ r3 s3 _ _ f3 fo2 =>
      cases fo2 with
      | @cons _ r4 s4 _ _ f4 fo2 =>
      cases fo2
      cases hrw2 with
      | @cons q1 _ _ _ w1 l1 hrw2 =>
      cases hrw2 with
      | @cons q2 _ _ _ w2 l2 hrw2 =>
      cases hrw2 with
      | @cons q3 _ _ _ w3 l3 hrw2 =>
      cases hrw2 with
      | @cons q4 _ _ _ w4 l4 hrw2 =>
      cases hrw2
      refine ⟨_, rfl, tl, rfl, ⟨_, SqL.of htl⟩, fun D hD => ?_⟩
      refine lc_it (walk_list (xs := [V.ref o1, .ref o2, .ref o3, .ref o4])) (fun i H' => i ≤ 4 ∧ H' D = some (.lst ([V.ref r1, .ref r2, .ref r3, .ref r4].take i)) ∧ Ext H2 H') ⟨Nat.zero_le _, upd_same, Ext.refl.new hD⟩ (fun i H' _ z => SqL.of (z.2.2 _ _ htl)) ?_ ?_
      · rintro i y H3 H4 hi ⟨h4, hD3, k3⟩ ⟨rfl, hy⟩
        have fin : ∀ {o r : Addr} {sts : List Stp}, y = .ref o → FolQ K Cf H2 o r sts → [V.ref r1, .ref r2, .ref r3, .ref r4][i]? = some (.ref r) → _ := fun {o r sts} e f z => (⟨e, f.ext k3, z⟩ : y = V.ref o ∧ FolQ K Cf H4 o r sts ∧ [V.ref r1, .ref r2, .ref r3, .ref r4][i]? = some (.ref r))
        obtain ⟨o, r, sts, rfl, ⟨⟨dx', e'⟩, fr⟩, hz⟩ : ∃ o r sts, y = V.ref o ∧ FolQ K Cf H4 o r sts ∧ [V.ref r1, .ref r2, .ref r3, .ref r4][i]? = some (.ref r) := by
          have hi4 : i < 4 := hi
          obtain rfl | rfl | rfl | rfl : i = 0 ∨ i = 1 ∨ i = 2 ∨ i = 3 := by omega
          · exact ⟨_, _, _, fin (Option.some.inj hy).symm f1 rfl⟩
          · exact ⟨_, _, _, fin (Option.some.inj hy).symm f2 rfl⟩
          · exact ⟨_, _, _, fin (Option.some.inj hy).symm f3 rfl⟩
          · exact ⟨_, _, _, fin (Option.some.inj hy).symm f4 rfl⟩
        refine ⟨rfl, _, rfl, o, dx', _, rfl, e', rfl, o, r, sts, rfl, ⟨⟨dx', e'⟩, fr⟩, ?_⟩
        refine ⟨_, hD3, by rw [List.length_take, sizeLine_eq]; show min i 4 < _; omega, by have : i < 4 := hi; omega, ?_, k3.new hD⟩
        rw [upd_same, List.take_succ, hz]
        rfl
      · rintro H3 ⟨_, hD3, k3⟩
        refine ⟨D, _, rfl, .inl ⟨SqL.of hD3, fun t1 ht1' => ?_⟩⟩
        have kt : Ext H3 (L2.upd H3 t1 (.tup [V.ref r1, .ref r2, .ref r3, .ref r4])) := Ext.refl.new ht1'
        refine ⟨_, rfl, t, _, 1, _, rfl, rfl, SqT.of (kt _ _ (k3 _ _ ht2)), at1, fl, _, rfl, .inl ⟨SqL.of (kt _ _ (k3 _ _ hfl2)), fun t2 ht2' => ?_⟩⟩
        have kt2 := kt.trans (Ext.refl.new (o := .tup [V.ref q1, .ref q2, .ref q3, .ref q4]) ht2')
        have k5 := k3.trans kt2
        refine ⟨_, _, rfl, .tup (SqT.of (a := t1) (xs := [V.ref r1, .ref r2, .ref r3, .ref r4]) ((Ext.refl.new ht2') _ _ upd_same)) (SqT.of (xs := [V.ref q1, .ref q2, .ref q3, .ref q4]) upd_same) rfl (by show 4 ≤ 1000; decide) (fun i x y e1 e2 => ?_), fun H6 k6 => q H6 (((k1.trans k2).trans k5).trans k6)⟩
        match i, e1, e2 with
        | 0, e1, e2 => cases e1; cases e2; exact sm_two (f1.ext k5).2.1 (w1.ext k5) l1
        | 1, e1, e2 => cases e1; cases e2; exact sm_two (f2.ext k5).2.1 (w2.ext k5) l2
        | 2, e1, e2 => cases e1; cases e2; exact sm_two (f3.ext k5).2.1 (w3.ext k5) l3
        | 3, e1, e2 => cases e1; cases e2; exact sm_two (f4.ext k5).2.1 (w4.ext k5) l4
        | i + 4, e1, e2 => cases e1
    | line k =>
      have ht : H t = some (.tup [.str "line", .int (k : Nat)]) := hd
      refine ⟨fun σ' H' => ∃ u, σ' = [some v, some (.ref t), some (.ref u), some .non, none, none] ∧ H' u = some (.tup [.str "line", .int (k : Nat)]) ∧ Ext H H', ?_, ?_⟩
      · exact ⟨_, rfl, v, .line k, rfl, hv, fun t2 H2 k2 ⟨u, h1, h2⟩ => ⟨t2, _, rfl, SqT.of h1, rfl, _, _, rfl, _, _, rfl, rfl, u, rfl, h2, k2⟩⟩
      rintro σ1 H1 ⟨u, rfl, hu, k1⟩
      have ht1 := k1 t _ ht
      refine ⟨_, rfl, u, _, 0, _, rfl, rfl, SqT.of hu, at0, _, rfl, t, _, 0, _, rfl, rfl, SqT.of ht1, at0, rfl, _, rfl, ?_⟩
      rw [decide_eq_true rfl]
      refine iteF ?_
      refine ⟨_, rfl, t, _, 0, _, rfl, rfl, SqT.of ht1, at0, rfl, _, rfl, ?_⟩
      rw [decide_eq_true rfl]
      refine iteT ?_
      refine ⟨_, rfl, u, _, 1, _, rfl, rfl, SqT.of hu, at1, _, rfl, t, _, 1, _, rfl, rfl, SqT.of ht1, at1, _, rfl, ?_⟩
      refine ⟨true, rfl, iteT ⟨_, rfl, v, k, rfl, hv.ext k1, fun t2 H2 k2 h2 => ?_⟩⟩
      refine ⟨by show 3 ≤ sizeLine; decide, fun t3 ht3 => ?_⟩
      have k3 : ∀ o, Ext H2 (L2.upd H2 t3 o) := fun o => Ext.refl.new ht3
      refine ⟨_, _, dB (k3 _ t2 _ h2), dB upd_same, by decide +kernel, by decide +kernel, ?_⟩
      exact q _ ((k1.trans k2).trans (k3 _))
end
end Pd

set_option maxHeartbeats 4000000
namespace Pd
open PySem PySem.Spec PyProof.Rows L2 SX
theorem ln_ex (i : Nat) (l : List Nat) : ∃ ro, LnAt i l ro := by
  by_cases h : ∃ hd y, headsL[i]? = some hd ∧ l = hd ++ y
  · obtain ⟨hd, y, h1, h2⟩ := h
    obtain ⟨r, hr⟩ := rd_ex y
    cases r with
    | made sts => exact ⟨_, .made h1 h2 hr⟩
    | part k => exact ⟨_, .part h1 h2 hr⟩
    | many => exact ⟨_, .many h1 h2 hr⟩
  · exact ⟨_, .head (.inr fun hd y e1 e2 => h ⟨hd, y, e1, e2⟩)⟩
theorem gd_ex (x : List Nat) : ∀ n, n ≤ (spl10 x).length → (∃ four, Gds ((spl10 x).take n) four) ∨ ∃ k, DnAt x (.line k)
  | 0, _ => .inl ⟨[], rfl, fun j l e => by rw [List.take_zero] at e; cases e⟩
  | n + 1, hn => by
    rcases gd_ex x n (by omega) with ⟨four, g⟩ | h
    · obtain ⟨l, hl⟩ : ∃ l, (spl10 x)[n]? = some l := ⟨_, List.getElem?_eq_getElem hn⟩
      obtain ⟨ro, hr⟩ := ln_ex n l
      cases ro with
      | none => exact .inr ⟨n, .bad g hl hr⟩
      | some sts =>
        have e1 : (spl10 x).take (n + 1) = (spl10 x).take n ++ [l] := by rw [List.take_succ, hl]; rfl
        have l1 : ((spl10 x).take n).length = n := by rw [List.length_take]; omega
        have l2 : four.length = n := by rw [← g.1, l1]
        refine .inl ⟨four ++ [sts], by rw [e1, List.length_append, List.length_append, g.1]; rfl, fun j m e => ?_⟩
        rw [e1] at e
        rcases Nat.lt_or_ge j n with hj | hj
        · rw [List.getElem?_append_left (by omega)] at e
          obtain ⟨s, h1, h2⟩ := g.2 j m e
          exact ⟨s, by rw [List.getElem?_append_left (by omega)]; exact h1, h2⟩
        · rw [List.getElem?_append_right (by omega), l1] at e
          have hz : j - n = 0 := by
            have := (List.getElem?_eq_some_iff.mp e).1
            simp at this
            omega
          have hj2 : j = n := by omega
          subst hj2
          rw [Nat.sub_self] at e
          cases e
          exact ⟨sts, by rw [List.getElem?_append_right (by omega), l2, Nat.sub_self]; rfl, hr⟩
    · exact .inr h
theorem dn_ex (x : List Nat) : ∃ r, DnAt x r := by
  rcases gd_ex x _ (Nat.le_refl _) with ⟨four, g⟩ | ⟨k, h⟩
  · rw [List.take_length] at g
    rcases Nat.lt_trichotomy four.length 4 with h | h | h
    · exact ⟨_, .few g h⟩
    · exact ⟨_, .made g h⟩
    · obtain ⟨l, hl⟩ : ∃ l, (spl10 x)[4]? = some l := ⟨_, List.getElem?_eq_getElem (by rw [g.1]; exact h)⟩
      obtain ⟨s, _, h2⟩ := g.2 4 l hl
      cases h2 with
      | made h e r => cases h
  · exact ⟨_, h⟩
theorem ftext_len2 {sts : List Stp} (ok : ∀ st ∈ sts, st.ok) (h6 : sts.length ≤ 6) : (ftext sts).length ≤ 210 := by
  unfold ftext
  split
  · decide
  · have h1 := joinL_len [59, 32] (sts.map partL)
    have h2 := sum_le (parts_len ok)
    rw [List.length_map] at h1 h2
    have h3 : sts.length * ([59, 32] : List Nat).length ≤ 12 := by show sts.length * 2 ≤ 12; omega
    omega
theorem lines_len2 {rws : List (List Stp)} (h : ∀ sts ∈ rws, (∀ st ∈ sts, st.ok) ∧ sts.length ≤ 6) : ∀ x ∈ dlines rws, x.length ≤ 218 := by
  intro x hx
  unfold dlines at hx
  obtain ⟨i, hi, e⟩ := List.getElem_of_mem hx
  rw [List.getElem_zipWith] at e
  subst e
  have h1 : ∀ y ∈ headsL, y.length ≤ 8 := by decide
  have hi2 : i < (rws.map ftext).length := by
    rw [List.length_zipWith] at hi
    omega
  have h2 : (rws.map ftext)[i].length ≤ 210 := by
    rw [List.getElem_map]
    obtain ⟨a, b⟩ := h _ (List.getElem_mem (by simpa using hi2))
    exact ftext_len2 a b
  rw [List.length_append]
  have h3 := h1 _ (List.getElem_mem (show i < headsL.length by rw [List.length_zipWith] at hi; omega))
  omega
theorem dtext_len {rws : List (List Stp)} (h : ∀ sts ∈ rws, (∀ st ∈ sts, st.ok) ∧ sts.length ≤ 6) : (dtext rws).length ≤ 1000 := by
  have h1 := joinL_len [10] (dlines rws)
  have h2 := sum_le (lines_len2 h)
  have h3 := lines_few rws
  have h4 : (dlines rws).length * ([10] : List Nat).length ≤ 4 := by show (dlines rws).length * 1 ≤ 4; omega
  show (TL.joinL [10] (dlines rws)).length ≤ 1000
  omega
def spLaw (K : PySem.W.Frag) : Sp := fun vs H Q _ => ∃ (a : Addr) (ns : List Int), vs = [.ref a] ∧ SqL K H a (ns.map V.int) ∧ ns.length ≤ 63 ∧ ∀ H', Q (.bl true) H'
section
variable {P : Program} {w : World} {K : PySem.W.Frag} {mg : Str → Option Value} {base : Heap}
theorem ok_law {f : Addr} {fd : FuncData} (F : Fun K "law" "law" sLaw f fd) (T : Nms mg) (G1 : Cl P w K mg base 1 "_law_well" (spJar K)) (D : Cl P w K mg base 1 "_law_draw" spDraw) (G2 : Cl P w K mg base 2 "_law_pool" spPool) (G3 : Cl P w K mg base 5 "_law_doors" (spBdoors K))
    (G6 : Cl P w K mg base 3 "_law_doors_text" (spLDText K)) (GS : Cl P w K mg base 5 "_law_spoilt_lines" spSpoilL) (GL : Cl P w K mg base 4 "_law_due" (spDue K)) (GR : Cl P w K mg base 10 "_law_right" (spRightD K)) : FnOk P w K mg base CX0 11 f fd ["script"] (spLaw K) := by
  refine F.ok scLaw (fun vs H Q E h => ?_) (fun cdv A outer s H vs Q E hr h => ?_)
  · obtain ⟨a, ns, rfl, _⟩ := h
    rfl
  · obtain ⟨a, ns, rfl, hS, hlen, q⟩ := h
    have nd := scLaw.nd
    refine ⟨_, pss_cons (ps_for PassesOwn.never rfl (pi_range1 rfl T.range (pa_cons (pe_callB (call_max2 rfl) (by rfl) T.max (by decide +kernel) (pa_cons pe_int (pa_cons (pe_callB call_len_seq (by rfl) T.len PySem.boot_len (pa_cons (pv 0) pa_nil)) pa_nil))) pa_nil)) (pg_name (i := 1) nd rfl (Or.inl rfl))
        (pss_cons (ps_set (i := 2) nd rfl (Or.inl rfl) (pe_cl G1 hr (by decide) rfl (pa_cons (pv 0) (pa_cons (pv 1) pa_nil))))
        (C8.pss_cut (ps_par (i := 3) (j := 4) (by rfl) nd rfl rfl (by decide) rfl rfl (pa_cons (pe_cl D hr (by decide) rfl (pa_cons (pv 2) (pa_cons pe_int pa_nil))) (pa_cons (pe_cl D hr (by decide) rfl (pa_cons (pv 2) (pa_cons pe_int pa_nil))) pa_nil)) (by rfl))
        (C8.pss_cut (ps_set (i := 5) nd rfl (Or.inl rfl) (pe_cl G2 hr (by decide) rfl (pa_cons (pv 2) pa_nil)))
        (C8.pss_cut (ps_set (i := 6) nd rfl (Or.inl rfl) (pe_cl G6 hr (by decide) rfl (pa_cons (pe_cl G3 hr (by decide) rfl (pa_cons (pv 2) (pa_cons (pv 5) pa_nil))) pa_nil)))
        (C8.pss_cut (ps_if (pt_cmpR op_lt (pv 3) pe_int (nomark _))
          (pss_cons (ps_set (i := 7) nd rfl (Or.inl rfl) (pe_ix ix_list (pe_lst (pa_cons pe_non (pa_cons pe_int (pa_cons pe_bl (pa_cons (pe_lst pa_nil) (pa_cons (pe_lst (pa_cons (pv 6) pa_nil)) (pa_cons (pe_tup (pa_cons (pv 6) pa_nil)) (pa_cons pe_dnewK pa_nil)))))))) (pv 3) (fun _ _ => rfl)))
          (pss_one (ps_if (pt_not (pt_val (pe_cl GR hr (by decide) rfl (pa_cons (pv 7) (pa_cons (pe_tup (pa_cons pe_str (pa_cons pe_int pa_nil))) pa_nil))))) pss_never pss_nil))) pss_nil)
        (C8.pss_cut (ps_for PassesOwn.never rfl (pi_range1 rfl T.range (pa_cons (pv 4) pa_nil)) (pg_name (i := 8) nd rfl (Or.inl rfl)) (pss_one (ps_set (i := 6) nd rfl (Or.inl rfl) (pe_slice C8.sl_txt (pe_cl GS hr (by decide) rfl (pa_cons (pv 2) (pa_cons (pv 5) (pa_cons (pv 6) pa_nil)))) po_none (po_some pe_int)))))
        (pss_one (ps_if (pt_not (pt_val (pe_cl GR hr (by decide) rfl (pa_cons (pv 6) (pa_cons (pe_cl GL hr (by decide) rfl (pa_cons (pv 6) pa_nil)) pa_nil))))) pss_never pss_nil)))))))))
      (pss_one (ps_ret pe_bl)), ?_⟩
    refine ⟨_, rfl, a, _, rfl, .inl hS, _, _, rfl, ?_⟩
    rw [List.length_map]
    generalize hz : (if ((ns.length : Nat) : Int) > 1 then ((ns.length : Nat) : Int) else 1) = z
    have hz0 : 1 ≤ z := by rw [← hz]; split <;> omega
    have hz1 : z ≤ 63 := by rw [← hz]; split <;> omega
    refine ⟨z, rfl, by omega, by omega, ?_⟩
    refine for_range (lo := 0) (n := z.toNat) (fun i σ H' => ∃ u1 u2 u3 u4 u5 u6 u7 u8, σ = [some (.ref a), u1, u2, u3, u4, u5, u6, u7, u8] ∧ Ext H H') ⟨none, none, none, none, none, none, none, none, rfl, .refl⟩ ?_ ?_
    case refine_2 =>
      rintro σ H1 ⟨u1, u2, u3, u4, u5, u6, u7, u8, rfl, k1⟩
      exact q H1
    rintro i σ H1 hi ⟨u1, u2, u3, u4, u5, u6, u7, u8, rfl, k1⟩
    refine ⟨_, rfl, _, rfl, a, ns, 0 + (i : Nat), rfl, sqL_keep hS (fun o e => k1 a o e), hlen, by omega, by omega, fun j H2 nj J2 k2 => ?_⟩
    have k12 : Ext H1 H2 := k2
    have njH : H j = none := by
      cases e : H j with
      | none => rfl
      | some o => rw [k1 j o e] at nj; cases nj
    refine ⟨fun σ' H' => ∃ wy sp : Int, σ' = [some (.ref a), some (.int (0 + (i : Nat))), some (.ref j), some (.int wy), some (.int sp), u5, u6, u7, u8] ∧ 0 ≤ wy ∧ 0 ≤ sp ∧ sp < 4 ∧ JarAt H' j 2 ∧ Kp j H2 H', ?_, ?_⟩
    · refine ⟨_, rfl, j, 42, 0, rfl, J2, by omega, by decide, by decide, fun wy H3 h0 h1 J3 k3 => ?_⟩
      refine ⟨_, rfl, j, 4, _, rfl, J3, by omega, by decide, by decide, fun sp H4 h40 h41 J4 k4 => ?_⟩
      exact ⟨_, _, rfl, wy, sp, rfl, h0, h40, h41, J4, k3.trans k4⟩
    rintro σ3 H3 ⟨wy, sp, rfl, wy0, sp0, sp4, J3, k3⟩
    refine ⟨fun σ' H' => ∃ po, σ' = [some (.ref a), some (.int (0 + (i : Nat))), some (.ref j), some (.int wy), some (.int sp), some (.str (S po)), u6, u7, u8] ∧ PoolOk po ∧ JarAt H' j 8 ∧ Kp j H2 H', ?_, ?_⟩
    · exact ⟨_, rfl, j, 2, rfl, J3, by omega, fun po H4 hp J4 k4 => ⟨po, rfl, hp, J4, k3.trans k4⟩⟩
    rintro σ4 H4 ⟨po, rfl, hpo, J4, k4⟩
    refine ⟨fun σ' H' => ∃ l : List Nat, σ' = [some (.ref a), some (.int (0 + (i : Nat))), some (.ref j), some (.int wy), some (.int sp), some (.str (S po)), some (.str (S l)), u7, u8] ∧ l.length ≤ 1000 ∧ JarAt H' j 3008 ∧ Kp j H2 H', ?_, ?_⟩
    · refine ⟨_, rfl, _, rfl, j, 8, po, rfl, J4, hpo, by omega, fun p rs rws H5 np W5 J5 k5 => ?_⟩
      exact ⟨p, rs, rws, rfl, W5, fun H6 k6 => ⟨dtext rws, rfl, dtext_len W5.2.1.good, J5.ext k6, (k4.trans k5).trans k6.kp⟩⟩
    rintro σ5 H5 ⟨l, rfl, hl, J5, k5⟩
    obtain ⟨xs5, hx5⟩ := J5.lst
    refine ⟨fun σ' H' => ∃ u7, σ' = [some (.ref a), some (.int (0 + (i : Nat))), some (.ref j), some (.int wy), some (.int sp), some (.str (S po)), some (.str (S l)), u7, u8] ∧ Ext H5 H', ?_, ?_⟩
    · refine ⟨_, rfl, _, _, rfl, rfl, _, rfl, ite2 (fun hw => ?_) (fun _ => ⟨_, rfl, .refl⟩)⟩
      have hw7 : wy < 7 := of_decide_eq_true hw
      refine ⟨by show 0 ≤ sizeLine; decide, fun p1 hp1 => ?_⟩
      obtain ⟨G1', z1⟩ : ∃ H', H' = L2.upd H5 p1 (.lst []) := ⟨_, rfl⟩
      rw [← z1]
      have g1 : Ext H5 G1' := by rw [z1]; exact Ext.refl.new hp1
      have x1 : G1' p1 = some (.lst []) := by rw [z1]; exact upd_same
      refine ⟨_, rfl, by show 1 ≤ sizeLine; decide, fun p2 hp2 => ?_⟩
      obtain ⟨G2', z2⟩ : ∃ H', H' = L2.upd G1' p2 (.lst [.str (S l)]) := ⟨_, rfl⟩
      rw [← z2]
      have g2 : Ext G1' G2' := by rw [z2]; exact Ext.refl.new hp2
      have x2 : G2' p2 = some (.lst [.str (S l)]) := by rw [z2]; exact upd_same
      refine ⟨_, rfl, by show 1 ≤ sizeLine; decide, fun p3 hp3 => ?_⟩
      obtain ⟨G3', z3⟩ : ∃ H', H' = L2.upd G2' p3 (.tup [.str (S l)]) := ⟨_, rfl⟩
      rw [← z3]
      have g3 : Ext G2' G3' := by rw [z3]; exact Ext.refl.new hp3
      have x3 : G3' p3 = some (.tup [.str (S l)]) := by rw [z3]; exact upd_same
      intro p4 hp4
      obtain ⟨G4', z4⟩ : ∃ H', H' = L2.upd G3' p4 (.dK []) := ⟨_, rfl⟩
      rw [← z4]
      have g4 : Ext G3' G4' := by rw [z4]; exact Ext.refl.new hp4
      have x4 : G4' p4 = some (.dK []) := by rw [z4]; exact upd_same
      refine ⟨by show 7 ≤ sizeLine; decide, fun ba hba => ?_⟩
      obtain ⟨G5', z5⟩ : ∃ H', H' = L2.upd G4' ba (.lst [.non, .int 0, .bl true, .ref p1, .ref p2, .ref p3, .ref p4]) := ⟨_, rfl⟩
      rw [← z5]
      have g5 : Ext G4' G5' := by rw [z5]; exact Ext.refl.new hba
      have x5 : G5' ba = some (.lst [.non, .int 0, .bl true, .ref p1, .ref p2, .ref p3, .ref p4]) := by rw [z5]; exact upd_same
      have y1 := g5 _ _ (g4 _ _ (g3 _ _ (g2 _ _ x1)))
      have y2 := g5 _ _ (g4 _ _ (g3 _ _ x2))
      have y3 := g5 _ _ (g4 _ _ x3)
      have y4 := g5 _ _ x4
      have g05 : Ext H5 G5' := (((g1.trans g2).trans g3).trans g4).trans g5
      obtain ⟨v, hv, ev⟩ := at_in (xs := [V.non, .int 0, .bl true, .ref p1, .ref p2, .ref p3, .ref p4]) wy0 (by simpa using hw7)
      refine ⟨_, rfl, ba, _, wy, v, rfl, rfl, SqL.of x5, ev, ?_⟩
      have nos : ∀ H', Ext G5' H' → NoStr K H' v := fun H' k => by
        simp only [List.mem_cons, List.not_mem_nil, or_false] at hv
        rcases hv with rfl | rfl | rfl | rfl | rfl | rfl | rfl
        · exact ⟨_, .base .non, by decide +kernel⟩
        · exact ⟨_, .base (.int _), by decide +kernel⟩
        · exact ⟨_, .base (.bl _), by decide +kernel⟩
        · exact ⟨_, .base (.lst (k _ _ y1)), by decide +kernel⟩
        · exact ⟨_, .base (.lst (k _ _ y2)), by decide +kernel⟩
        · exact ⟨_, .base (.tup (k _ _ y3)), by decide +kernel⟩
        · exact ⟨_, .base (.dK (k _ _ y4)), by decide +kernel⟩
      refine ⟨_, rfl, by show 2 ≤ sizeLine; decide, fun t ht => ?_⟩
      have kt : Ext G5' (L2.upd G5' t (.tup [.str "line", .int 0])) := Ext.refl.new ht
      refine ⟨v, .line 0, t, rfl, .inl ⟨fun H' k => nos H' (kt.trans k), rfl⟩, upd_same, fun H7 k7 => ⟨true, rfl, iteF ⟨_, rfl, (g05.trans kt).trans k7⟩⟩⟩
    rintro σ6 H6 ⟨u7', rfl, k6⟩
    have J6 := J5.ext k6
    have k26 : Kp j H2 H6 := k5.trans k6.kp
    refine ⟨fun σ' H' => ∃ (l : List Nat) (u : Option V), σ' = [some (.ref a), some (.int (0 + (i : Nat))), some (.ref j), some (.int wy), some (.int sp), some (.str (S po)), some (.str (S l)), u7', u] ∧ l.length ≤ 1000 ∧ Kp j H2 H', ?_, ?_⟩
    · refine ⟨_, rfl, sp, rfl, by omega, by omega, ?_⟩
      refine for_range (lo := 0) (n := sp.toNat) (fun i' σ H' => ∃ (l : List Nat) (u : Option V), σ = [some (.ref a), some (.int (0 + (i : Nat))), some (.ref j), some (.int wy), some (.int sp), some (.str (S po)), some (.str (S l)), u7', u] ∧ l.length ≤ 1000 ∧ JarAt H' j (3008 + 600 * i') ∧ Kp j H2 H') ⟨l, u8, rfl, hl, J6, k26⟩ ?_ ?_
      · rintro i' σ H7 hi' ⟨l7, u, rfl, hl7, J7, k7⟩
        refine ⟨_, rfl, _, rfl, _, rfl, j, _, po, l7, rfl, J7, hpo, by omega, hl7, fun m H8 hm J8 k8 => ?_⟩
        refine ⟨1000, rfl, _, rfl, by rw [S_len, sizeLine_eq]; omega, ?_⟩
        rw [slice_to (by decide)]
        exact ⟨m.take 1000, _, rfl, by rw [List.length_take]; omega, J8, k7.trans k8⟩
      · rintro σ H7 ⟨l7, u, rfl, hl7, J7, k7⟩
        exact ⟨l7, u, rfl, hl7, k7⟩
    rintro σ7 H7 ⟨l7, u, rfl, hl7, k7⟩
    obtain ⟨r, hrd⟩ := dn_ex l7
    refine ⟨_, rfl, _, rfl, l7, r, rfl, hl7, hrd, fun t H8 k8 hd => ?_⟩
    refine ⟨_, r, t, rfl, .inr ⟨l7, rfl, hl7, hrd⟩, hd, fun H9 k9 => ⟨true, rfl, iteF ⟨_, _, _, _, _, _, _, _, rfl, ?_⟩⟩⟩
    exact ext_kp (k1.trans k12) (k7.trans (k8.trans k9).kp) njH
end
end Pd

set_option maxHeartbeats 4000000
namespace Pd
open PySem PySem.Spec PyProof.Rows L2 SX
/-! ### classes of errors -/
theorem exm_me {K : PySem.W.Frag} {C : Addr} (b : PySem.W.subIn K (.ref C) (.type "BaseException") = some true) (i : PySem.W.isClsIn K C = true) (t : PySem.W.typeIn K (.ref C) = some (.type "type")) (s : PySem.W.subIn K (.ref C) (.ref C) = some true) : PySem.W.exmOne K (.ref C) (.ref C) = some true := by
  have e : (PySem.W.clsIn K C).isSome = true := i
  simp [PySem.W.exmOne, PySem.W.kitCls, b, t, s, e]
theorem exm_any2 {K : PySem.W.Frag} {cls c1 c2 : Value} {b1 b2 : Bool} (h1 : PySem.W.exmOne K cls c1 = some b1) (h2 : PySem.W.exmOne K cls c2 = some b2) : PySem.W.exmAny K cls [c1, c2] = some (b1 || (b2 || false)) := by
  simp [PySem.W.exmAny, h1, h2]
theorem kit_me {K : PySem.W.Frag} {C : Addr} : PySem.W.kitOne K (.ref C) (.ref C) = some true := by unfold PySem.W.kitOne; rw [if_pos (beq_self_eq_true _)]
theorem block_fact {X : Cx} {sts : List Stmt} {t : TS} {p : Prop} (h : p → PSs X sts t) : PSs X sts (fun D σ H => p ∧ t D σ H) := by
  constructor
  intro pins s σ H D I ⟨hp, q⟩
  exact (h hp).run pins s σ H D I q
theorem kit_ty_ref {K : PySem.W.Frag} {C : Addr} {b : Bool} (s : PySem.W.subIn K (.ref C) (.type "ValueError") = some b) : PySem.W.kitOne K (.ref C) (.type "ValueError") = some b := by
  have e : PySem.W.kitMeta "ValueError" = true := by decide +kernel
  unfold PySem.W.kitOne
  rw [if_neg (by intro h; exact absurd (beq_iff_eq.mp h) (by intro h; cases h))]
  show (if PySem.W.kitMeta "ValueError" = true then PySem.W.subIn K (.ref C) (.type "ValueError") else none) = some b
  rw [if_pos e]
  exact s
theorem kit_ref_no {K : PySem.W.Frag} {C D : Addr} (i : PySem.W.isClsIn K D = true) (t : PySem.W.typeIn K (.ref D) = some (.type "type")) (s : PySem.W.subIn K (.ref C) (.ref D) = some false) (s' : PySem.W.subIn K (.ref C) (.ref C) = some true) : PySem.W.kitOne K (.ref C) (.ref D) = some false := by
  have e : (PySem.W.clsIn K D).isSome = true := i
  have n : ¬ ((Value.ref C == Value.ref D) = true) := by
    intro h
    have h := beq_iff_eq.mp h
    rw [← h, s'] at s
    cases s
  unfold PySem.W.kitOne
  rw [if_neg n]
  simp [PySem.W.kitCls, t, e, s]
end Pd

set_option maxHeartbeats 4000000
namespace Pd
open PySem PySem.Spec PyProof.Rows L2 SX
theorem all_mk {l : PySem.W.OpenLaw} {w : World} {K : PySem.W.Frag} {h : Heap} {mg : Str → Option Value} {fa C CN CQ CL CP Bd f0 f1 f2 f3 f4 f5 f6 f7 f8 f9 f10 f11 f12 f13 f14 f15 f16 f17 f18 f19 f20 f21 f22 f23 f24 f25 f26 f27 f28 f29 f30 f31 f32 f33 f34 f35 f36 f37 D g0 Td Ed g1 g2 g3 g4 g5 g6 g7 g8 g9 g10 g11 : Addr} (X : K.In h) (G : h.Ns mainGlobals mg) (hfa : mg "law" = some (.ref fa))
    {od0 an0 od1 an1 od2 an2 od3 an3 od4 an4 od5 an5 od6 an6 od7 an7 od8 an8 od9 an9 od10 an10 od11 an11 od12 an12 od13 an13 od14 an14 od15 an15 od16 an16 od17 an17 od18 an18 od19 an19 od20 an20 od21 an21 od22 an22 od23 an23 od24 an24 od25 an25 od26 an26 od27 an27 od28 an28 od29 an29 od30 an30 od31 an31 od32 an32 od33 an33 od34 an34 od35 an35 od36 an36 od37 an37 od_0 an_0 odT od_1 an_1 od_2 an_2 od_3 an_3 od_4 an_4 od_5 an_5 od_6 an_6 od_7 an_7 od_8 an_8 od_9 an_9 od_10 an_10 od_11 an_11 odE odB : Option Addr} {sl0 sl1 sl2 sl3 sl4 sl5 sl6 sl7 sl8 sl9 sl10 sl11 sl12 sl13 sl14 sl15 sl16 sl17 sl18 sl19 sl20 sl21 sl22 sl23 sl24 sl25 sl26 sl27 sl28 sl29 sl30 sl31 sl32 sl33 sl34 sl35 sl36 sl37 sl_0 slT sl_1 sl_2 sl_3 sl_4 sl_5 sl_6 sl_7 sl_8 sl_9 sl_10 sl_11 slE slB : Array (Option Value)} {oc0 kV0 dc0 pm0 cd0 ct0 oc1 kV1 dc1 pm1 cd1 ct1 oc2 kV2 dc2 pm2 cd2 ct2 oc3 kV3 dc3 pm3 cd3 ct3 oc4 kV4 dc4 pm4 cd4 ct4 oc5 kV5 dc5 pm5 cd5 ct5 oc6 kV6 dc6 pm6 cd6 ct6 oc7 kV7 dc7 pm7 cd7 ct7 oc8 kV8 dc8 pm8 cd8 ct8 oc9 kV9 dc9 pm9 cd9 ct9 oc10 kV10 dc10 pm10 cd10 ct10 oc11 kV11 dc11 pm11 cd11 ct11 oc12 kV12 dc12 pm12 cd12 ct12 oc13 kV13 dc13 pm13 cd13 ct13 oc14 kV14 dc14 pm14 cd14 ct14 oc15 kV15 dc15 pm15 cd15 ct15 oc16 kV16 dc16 pm16 cd16 ct16 oc17 kV17 dc17 pm17 cd17 ct17 oc18 kV18 dc18 pm18 cd18 ct18 oc19 kV19 dc19 pm19 cd19 ct19 oc20 kV20 dc20 pm20 cd20 ct20 oc21 kV21 dc21 pm21 cd21 ct21 oc22 kV22 dc22 pm22 cd22 ct22 oc23 kV23 dc23 pm23 cd23 ct23 oc24 kV24 dc24 pm24 cd24 ct24 oc25 kV25 dc25 pm25 cd25 ct25 oc26 kV26 dc26 pm26 cd26 ct26 oc27 kV27 dc27 pm27 cd27 ct27 oc28 kV28 dc28 pm28 cd28 ct28 oc29 kV29 dc29 pm29 cd29 ct29 oc30 kV30 dc30 pm30 cd30 ct30 oc31 kV31 dc31 pm31 cd31 ct31 oc32 kV32 dc32 pm32 cd32 ct32 oc33 kV33 dc33 pm33 cd33 ct33 oc34 kV34 dc34 pm34 cd34 ct34 oc35 kV35 dc35 pm35 cd35 ct35 oc36 kV36 dc36 pm36 cd36 ct36 oc37 kV37 dc37 pm37 cd37 ct37 oc_0 kV_0 dc_0 pm_0 cd_0 ct_0 ocT oc_1 kV_1 dc_1 pm_1 cd_1 ct_1 oc_2 kV_2 dc_2 pm_2 cd_2 ct_2 oc_3 kV_3 dc_3 pm_3 cd_3 ct_3 oc_4 kV_4 dc_4 pm_4 cd_4 ct_4 oc_5 kV_5 dc_5 pm_5 cd_5 ct_5 oc_6 kV_6 dc_6 pm_6 cd_6 ct_6 oc_7 kV_7 dc_7 pm_7 cd_7 ct_7 oc_8 kV_8 dc_8 pm_8 cd_8 ct_8 oc_9 kV_9 dc_9 pm_9 cd_9 ct_9 oc_10 kV_10 dc_10 pm_10 cd_10 ct_10 oc_11 kV_11 dc_11 pm_11 cd_11 ct_11 : Value} {tb tw td u1 u2 u3 u4 t0 t1 t2 t3 t4 : Tok} {nT nE nB : Nat} {nm qn : Str} {NN : Addr} {bs bm sub : List Value} {sn : List Str} {ab : Bool} {col : Option Bool} {dd : Option Addr} {q0 q1 q2 q3 q5 : Option Value} {nm' qn' : Str} {NN' : Addr} {bs' bm' sub' : List Value} {sn' : List Str} {ab' : Bool} {col' : Option Bool} {dd' : Option Addr} {q0' q1' q2' q3' q5' : Option Value} {nm'' qn'' : Str} {NN'' : Addr} {bs'' bm'' sub'' : List Value} {sn'' : List Str} {ab'' : Bool} {col'' : Option Bool} {dd'' : Option Addr} {q0'' q1'' q2'' q3'' q5'' : Option Value}
    (a0 : PySem.W.nsIn K mainGlobals "is_character" = some (some (.ref f0)))
    (l0 : K.lookup f0 = some ⟨oc0, od0, .func (PySem.W.fnOf "is_character" "is_character" (defArgs sIsCharacter) (defBody sIsCharacter) (defScope sIsCharacter) .none kV0 dc0 pm0 an0 cd0 ct0), sl0⟩)
    (c0 : PySem.W.codeIn K cd0 "is_character" = true)
    (k0 : PySem.W.keepIn K (.ref f0) = true)
    (a1 : PySem.W.nsIn K mainGlobals "is_text" = some (some (.ref f1)))
    (l1 : K.lookup f1 = some ⟨oc1, od1, .func (PySem.W.fnOf "is_text" "is_text" (defArgs sIsText) (defBody sIsText) (defScope sIsText) .none kV1 dc1 pm1 an1 cd1 ct1), sl1⟩)
    (c1 : PySem.W.codeIn K cd1 "is_text" = true)
    (k1 : PySem.W.keepIn K (.ref f1) = true)
    (a2 : PySem.W.nsIn K mainGlobals "is_integer" = some (some (.ref f2)))
    (l2 : K.lookup f2 = some ⟨oc2, od2, .func (PySem.W.fnOf "is_integer" "is_integer" (defArgs sIsInteger) (defBody sIsInteger) (defScope sIsInteger) .none kV2 dc2 pm2 an2 cd2 ct2), sl2⟩)
    (c2 : PySem.W.codeIn K cd2 "is_integer" = true)
    (k2 : PySem.W.keepIn K (.ref f2) = true)
    (a3 : PySem.W.nsIn K mainGlobals "is_step" = some (some (.ref f3)))
    (l3 : K.lookup f3 = some ⟨oc3, od3, .func (PySem.W.fnOf "is_step" "is_step" (defArgs sIsStep) (defBody sIsStep) (defScope sIsStep) .none kV3 dc3 pm3 an3 cd3 ct3), sl3⟩)
    (c3 : PySem.W.codeIn K cd3 "is_step" = true)
    (k3 : PySem.W.keepIn K (.ref f3) = true)
    (a4 : PySem.W.nsIn K mainGlobals "_is_choice" = some (some (.ref f4)))
    (l4 : K.lookup f4 = some ⟨oc4, od4, .func (PySem.W.fnOf "_is_choice" "_is_choice" (defArgs sIsChoice) (defBody sIsChoice) (defScope sIsChoice) .none kV4 dc4 pm4 an4 cd4 ct4), sl4⟩)
    (c4 : PySem.W.codeIn K cd4 "_is_choice" = true)
    (k4 : PySem.W.keepIn K (.ref f4) = true)
    (a5 : PySem.W.nsIn K mainGlobals "made_by_steps" = some (some (.ref f5)))
    (l5 : K.lookup f5 = some ⟨oc5, od5, .func (PySem.W.fnOf "made_by_steps" "made_by_steps" (defArgs sMadeBySteps) (defBody sMadeBySteps) (defScope sMadeBySteps) .none kV5 dc5 pm5 an5 cd5 ct5), sl5⟩)
    (c5 : PySem.W.codeIn K cd5 "made_by_steps" = true)
    (k5 : PySem.W.keepIn K (.ref f5) = true)
    (a6 : PySem.W.nsIn K mainGlobals "made_by_step" = some (some (.ref f6)))
    (l6 : K.lookup f6 = some ⟨oc6, od6, .func (PySem.W.fnOf "made_by_step" "made_by_step" (defArgs sMadeByStep) (defBody sMadeByStep) (defScope sMadeByStep) .none kV6 dc6 pm6 an6 cd6 ct6), sl6⟩)
    (c6 : PySem.W.codeIn K cd6 "made_by_step" = true)
    (k6 : PySem.W.keepIn K (.ref f6) = true)
    (a7 : PySem.W.nsIn K mainGlobals "_once" = some (some (.ref f7)))
    (l7 : K.lookup f7 = some ⟨oc7, od7, .func (PySem.W.fnOf "_once" "_once" (defArgs sOnce) (defBody sOnce) (defScope sOnce) .none kV7 dc7 pm7 an7 cd7 ct7), sl7⟩)
    (c7 : PySem.W.codeIn K cd7 "_once" = true)
    (k7 : PySem.W.keepIn K (.ref f7) = true)
    (a8 : PySem.W.nsIn K mainGlobals "read_folding" = some (some (.ref f8)))
    (l8 : K.lookup f8 = some ⟨oc8, od8, .func (PySem.W.fnOf "read_folding" "read_folding" (defArgs sReadFolding) (defBody sReadFolding) (defScope sReadFolding) .none kV8 dc8 pm8 an8 cd8 ct8), sl8⟩)
    (c8 : PySem.W.codeIn K cd8 "read_folding" = true)
    (k8 : PySem.W.keepIn K (.ref f8) = true)
    (a9 : PySem.W.nsIn K mainGlobals "_step_of" = some (some (.ref f9)))
    (l9 : K.lookup f9 = some ⟨oc9, od9, .func (PySem.W.fnOf "_step_of" "_step_of" (defArgs sStepOf) (defBody sStepOf) (defScope sStepOf) .none kV9 dc9 pm9 an9 cd9 ct9), sl9⟩)
    (c9 : PySem.W.codeIn K cd9 "_step_of" = true)
    (k9 : PySem.W.keepIn K (.ref f9) = true)
    (a10 : PySem.W.nsIn K mainGlobals "_number_of" = some (some (.ref f10)))
    (l10 : K.lookup f10 = some ⟨oc10, od10, .func (PySem.W.fnOf "_number_of" "_number_of" (defArgs sNumberOf) (defBody sNumberOf) (defScope sNumberOf) .none kV10 dc10 pm10 an10 cd10 ct10), sl10⟩)
    (c10 : PySem.W.codeIn K cd10 "_number_of" = true)
    (k10 : PySem.W.keepIn K (.ref f10) = true)
    (a11 : PySem.W.nsIn K mainGlobals "read_doors" = some (some (.ref f11)))
    (l11 : K.lookup f11 = some ⟨oc11, od11, .func (PySem.W.fnOf "read_doors" "read_doors" (defArgs sReadDoors) (defBody sReadDoors) (defScope sReadDoors) .none kV11 dc11 pm11 an11 cd11 ct11), sl11⟩)
    (c11 : PySem.W.codeIn K cd11 "read_doors" = true)
    (k11 : PySem.W.keepIn K (.ref f11) = true)
    (a12 : PySem.W.nsIn K mainGlobals "_folding_of" = some (some (.ref f12)))
    (l12 : K.lookup f12 = some ⟨oc12, od12, .func (PySem.W.fnOf "_folding_of" "_folding_of" (defArgs sFoldingOf) (defBody sFoldingOf) (defScope sFoldingOf) .none kV12 dc12 pm12 an12 cd12 ct12), sl12⟩)
    (c12 : PySem.W.codeIn K cd12 "_folding_of" = true)
    (k12 : PySem.W.keepIn K (.ref f12) = true)
    (a13 : PySem.W.nsIn K mainGlobals "_law_well" = some (some (.ref f13)))
    (l13 : K.lookup f13 = some ⟨oc13, od13, .func (PySem.W.fnOf "_law_well" "_law_well" (defArgs sLawWell) (defBody sLawWell) (defScope sLawWell) .none kV13 dc13 pm13 an13 cd13 ct13), sl13⟩)
    (c13 : PySem.W.codeIn K cd13 "_law_well" = true)
    (k13 : PySem.W.keepIn K (.ref f13) = true)
    (a14 : PySem.W.nsIn K mainGlobals "_law_draw" = some (some (.ref f14)))
    (l14 : K.lookup f14 = some ⟨oc14, od14, .func (PySem.W.fnOf "_law_draw" "_law_draw" (defArgs sLawDraw) (defBody sLawDraw) (defScope sLawDraw) .none kV14 dc14 pm14 an14 cd14 ct14), sl14⟩)
    (c14 : PySem.W.codeIn K cd14 "_law_draw" = true)
    (k14 : PySem.W.keepIn K (.ref f14) = true)
    (a15 : PySem.W.nsIn K mainGlobals "_law_chars" = some (some (.ref f15)))
    (l15 : K.lookup f15 = some ⟨oc15, od15, .func (PySem.W.fnOf "_law_chars" "_law_chars" (defArgs sLawChars) (defBody sLawChars) (defScope sLawChars) .none kV15 dc15 pm15 an15 cd15 ct15), sl15⟩)
    (c15 : PySem.W.codeIn K cd15 "_law_chars" = true)
    (k15 : PySem.W.keepIn K (.ref f15) = true)
    (a16 : PySem.W.nsIn K mainGlobals "_law_pool" = some (some (.ref f16)))
    (l16 : K.lookup f16 = some ⟨oc16, od16, .func (PySem.W.fnOf "_law_pool" "_law_pool" (defArgs sLawPool) (defBody sLawPool) (defScope sLawPool) .none kV16 dc16 pm16 an16 cd16 ct16), sl16⟩)
    (c16 : PySem.W.codeIn K cd16 "_law_pool" = true)
    (k16 : PySem.W.keepIn K (.ref f16) = true)
    (a17 : PySem.W.nsIn K mainGlobals "_law_character" = some (some (.ref f17)))
    (l17 : K.lookup f17 = some ⟨oc17, od17, .func (PySem.W.fnOf "_law_character" "_law_character" (defArgs sLawCharacter) (defBody sLawCharacter) (defScope sLawCharacter) .none kV17 dc17 pm17 an17 cd17 ct17), sl17⟩)
    (c17 : PySem.W.codeIn K cd17 "_law_character" = true)
    (k17 : PySem.W.keepIn K (.ref f17) = true)
    (a18 : PySem.W.nsIn K mainGlobals "_law_step" = some (some (.ref f18)))
    (l18 : K.lookup f18 = some ⟨oc18, od18, .func (PySem.W.fnOf "_law_step" "_law_step" (defArgs sLawStep) (defBody sLawStep) (defScope sLawStep) .none kV18 dc18 pm18 an18 cd18 ct18), sl18⟩)
    (c18 : PySem.W.codeIn K cd18 "_law_step" = true)
    (k18 : PySem.W.keepIn K (.ref f18) = true)
    (a19 : PySem.W.nsIn K mainGlobals "_law_steps" = some (some (.ref f19)))
    (l19 : K.lookup f19 = some ⟨oc19, od19, .func (PySem.W.fnOf "_law_steps" "_law_steps" (defArgs sLawSteps) (defBody sLawSteps) (defScope sLawSteps) .none kV19 dc19 pm19 an19 cd19 ct19), sl19⟩)
    (c19 : PySem.W.codeIn K cd19 "_law_steps" = true)
    (k19 : PySem.W.keepIn K (.ref f19) = true)
    (a20 : PySem.W.nsIn K mainGlobals "_law_part" = some (some (.ref f20)))
    (l20 : K.lookup f20 = some ⟨oc20, od20, .func (PySem.W.fnOf "_law_part" "_law_part" (defArgs sLawPart) (defBody sLawPart) (defScope sLawPart) .none kV20 dc20 pm20 an20 cd20 ct20), sl20⟩)
    (c20 : PySem.W.codeIn K cd20 "_law_part" = true)
    (k20 : PySem.W.keepIn K (.ref f20) = true)
    (a21 : PySem.W.nsIn K mainGlobals "_law_folding_text" = some (some (.ref f21)))
    (l21 : K.lookup f21 = some ⟨oc21, od21, .func (PySem.W.fnOf "_law_folding_text" "_law_folding_text" (defArgs sLawFoldingText) (defBody sLawFoldingText) (defScope sLawFoldingText) .none kV21 dc21 pm21 an21 cd21 ct21), sl21⟩)
    (c21 : PySem.W.codeIn K cd21 "_law_folding_text" = true)
    (k21 : PySem.W.keepIn K (.ref f21) = true)
    (a22 : PySem.W.nsIn K mainGlobals "_law_same" = some (some (.ref f22)))
    (l22 : K.lookup f22 = some ⟨oc22, od22, .func (PySem.W.fnOf "_law_same" "_law_same" (defArgs sLawSame) (defBody sLawSame) (defScope sLawSame) .none kV22 dc22 pm22 an22 cd22 ct22), sl22⟩)
    (c22 : PySem.W.codeIn K cd22 "_law_same" = true)
    (k22 : PySem.W.keepIn K (.ref f22) = true)
    (a23 : PySem.W.nsIn K mainGlobals "_law_doors" = some (some (.ref f23)))
    (l23 : K.lookup f23 = some ⟨oc23, od23, .func (PySem.W.fnOf "_law_doors" "_law_doors" (defArgs sLawDoors) (defBody sLawDoors) (defScope sLawDoors) .none kV23 dc23 pm23 an23 cd23 ct23), sl23⟩)
    (c23 : PySem.W.codeIn K cd23 "_law_doors" = true)
    (k23 : PySem.W.keepIn K (.ref f23) = true)
    (a24 : PySem.W.nsIn K mainGlobals "_law_doors_text" = some (some (.ref f24)))
    (l24 : K.lookup f24 = some ⟨oc24, od24, .func (PySem.W.fnOf "_law_doors_text" "_law_doors_text" (defArgs sLawDoorsText) (defBody sLawDoorsText) (defScope sLawDoorsText) .none kV24 dc24 pm24 an24 cd24 ct24), sl24⟩)
    (c24 : PySem.W.codeIn K cd24 "_law_doors_text" = true)
    (k24 : PySem.W.keepIn K (.ref f24) = true)
    (a25 : PySem.W.nsIn K mainGlobals "_law_whole" = some (some (.ref f25)))
    (l25 : K.lookup f25 = some ⟨oc25, od25, .func (PySem.W.fnOf "_law_whole" "_law_whole" (defArgs sLawWhole) (defBody sLawWhole) (defScope sLawWhole) .none kV25 dc25 pm25 an25 cd25 ct25), sl25⟩)
    (c25 : PySem.W.codeIn K cd25 "_law_whole" = true)
    (k25 : PySem.W.keepIn K (.ref f25) = true)
    (a26 : PySem.W.nsIn K mainGlobals "_law_guess" = some (some (.ref f26)))
    (l26 : K.lookup f26 = some ⟨oc26, od26, .func (PySem.W.fnOf "_law_guess" "_law_guess" (defArgs sLawGuess) (defBody sLawGuess) (defScope sLawGuess) .none kV26 dc26 pm26 an26 cd26 ct26), sl26⟩)
    (c26 : PySem.W.codeIn K cd26 "_law_guess" = true)
    (k26 : PySem.W.keepIn K (.ref f26) = true)
    (a27 : PySem.W.nsIn K mainGlobals "_law_is_step" = some (some (.ref f27)))
    (l27 : K.lookup f27 = some ⟨oc27, od27, .func (PySem.W.fnOf "_law_is_step" "_law_is_step" (defArgs sLawIsStep) (defBody sLawIsStep) (defScope sLawIsStep) .none kV27 dc27 pm27 an27 cd27 ct27), sl27⟩)
    (c27 : PySem.W.codeIn K cd27 "_law_is_step" = true)
    (k27 : PySem.W.keepIn K (.ref f27) = true)
    (a28 : PySem.W.nsIn K mainGlobals "_law_read" = some (some (.ref f28)))
    (l28 : K.lookup f28 = some ⟨oc28, od28, .func (PySem.W.fnOf "_law_read" "_law_read" (defArgs sLawRead) (defBody sLawRead) (defScope sLawRead) .none kV28 dc28 pm28 an28 cd28 ct28), sl28⟩)
    (c28 : PySem.W.codeIn K cd28 "_law_read" = true)
    (k28 : PySem.W.keepIn K (.ref f28) = true)
    (a29 : PySem.W.nsIn K mainGlobals "_law_edit" = some (some (.ref f29)))
    (l29 : K.lookup f29 = some ⟨oc29, od29, .func (PySem.W.fnOf "_law_edit" "_law_edit" (defArgs sLawEdit) (defBody sLawEdit) (defScope sLawEdit) .none kV29 dc29 pm29 an29 cd29 ct29), sl29⟩)
    (c29 : PySem.W.codeIn K cd29 "_law_edit" = true)
    (k29 : PySem.W.keepIn K (.ref f29) = true)
    (a30 : PySem.W.nsIn K mainGlobals "_law_near_part" = some (some (.ref f30)))
    (l30 : K.lookup f30 = some ⟨oc30, od30, .func (PySem.W.fnOf "_law_near_part" "_law_near_part" (defArgs sLawNearPart) (defBody sLawNearPart) (defScope sLawNearPart) .none kV30 dc30 pm30 an30 cd30 ct30), sl30⟩)
    (c30 : PySem.W.codeIn K cd30 "_law_near_part" = true)
    (k30 : PySem.W.keepIn K (.ref f30) = true)
    (a31 : PySem.W.nsIn K mainGlobals "_law_spoilt" = some (some (.ref f31)))
    (l31 : K.lookup f31 = some ⟨oc31, od31, .func (PySem.W.fnOf "_law_spoilt" "_law_spoilt" (defArgs sLawSpoilt) (defBody sLawSpoilt) (defScope sLawSpoilt) .none kV31 dc31 pm31 an31 cd31 ct31), sl31⟩)
    (c31 : PySem.W.codeIn K cd31 "_law_spoilt" = true)
    (k31 : PySem.W.keepIn K (.ref f31) = true)
    (a32 : PySem.W.nsIn K mainGlobals "_law_due" = some (some (.ref f32)))
    (l32 : K.lookup f32 = some ⟨oc32, od32, .func (PySem.W.fnOf "_law_due" "_law_due" (defArgs sLawDue) (defBody sLawDue) (defScope sLawDue) .none kV32 dc32 pm32 an32 cd32 ct32), sl32⟩)
    (c32 : PySem.W.codeIn K cd32 "_law_due" = true)
    (k32 : PySem.W.keepIn K (.ref f32) = true)
    (a33 : PySem.W.nsIn K mainGlobals "_law_spoilt_lines" = some (some (.ref f33)))
    (l33 : K.lookup f33 = some ⟨oc33, od33, .func (PySem.W.fnOf "_law_spoilt_lines" "_law_spoilt_lines" (defArgs sLawSpoiltLines) (defBody sLawSpoiltLines) (defScope sLawSpoiltLines) .none kV33 dc33 pm33 an33 cd33 ct33), sl33⟩)
    (c33 : PySem.W.codeIn K cd33 "_law_spoilt_lines" = true)
    (k33 : PySem.W.keepIn K (.ref f33) = true)
    (a34 : PySem.W.nsIn K mainGlobals "_law_tried" = some (some (.ref f34)))
    (l34 : K.lookup f34 = some ⟨oc34, od34, .func (PySem.W.fnOf "_law_tried" "_law_tried" (defArgs sLawTried) (defBody sLawTried) (defScope sLawTried) .none kV34 dc34 pm34 an34 cd34 ct34), sl34⟩)
    (c34 : PySem.W.codeIn K cd34 "_law_tried" = true)
    (k34 : PySem.W.keepIn K (.ref f34) = true)
    (a35 : PySem.W.nsIn K mainGlobals "_law_classes" = some (some (.ref f35)))
    (l35 : K.lookup f35 = some ⟨oc35, od35, .func (PySem.W.fnOf "_law_classes" "_law_classes" (defArgs sLawClasses) (defBody sLawClasses) (defScope sLawClasses) .none kV35 dc35 pm35 an35 cd35 ct35), sl35⟩)
    (c35 : PySem.W.codeIn K cd35 "_law_classes" = true)
    (k35 : PySem.W.keepIn K (.ref f35) = true)
    (a36 : PySem.W.nsIn K mainGlobals "_law_right" = some (some (.ref f36)))
    (l36 : K.lookup f36 = some ⟨oc36, od36, .func (PySem.W.fnOf "_law_right" "_law_right" (defArgs sLawRight) (defBody sLawRight) (defScope sLawRight) .none kV36 dc36 pm36 an36 cd36 ct36), sl36⟩)
    (c36 : PySem.W.codeIn K cd36 "_law_right" = true)
    (k36 : PySem.W.keepIn K (.ref f36) = true)
    (a37 : PySem.W.nsIn K mainGlobals "law" = some (some (.ref f37)))
    (l37 : K.lookup f37 = some ⟨oc37, od37, .func (PySem.W.fnOf "law" "law" (defArgs sLaw) (defBody sLaw) (defScope sLaw) .none kV37 dc37 pm37 an37 cd37 ct37), sl37⟩)
    (c37 : PySem.W.codeIn K cd37 "law" = true)
    (k37 : PySem.W.keepIn K (.ref f37) = true)
    (aC : PySem.W.nsIn K mainGlobals "Folding" = some (some (.ref C)))
    (aD : PySem.W.nsIn K mainGlobals "Doors" = some (some (.ref D)))
    (gN : PySem.W.nsIn K mainGlobals "NoStep" = some (some (.ref CN)))
    (gQ : PySem.W.nsIn K mainGlobals "NoPart" = some (some (.ref CQ)))
    (gP : PySem.W.nsIn K mainGlobals "PlainError" = some (some (.ref CP)))
    (gL : PySem.W.nsIn K mainGlobals "NoLine" = some (some (.ref CL)))
    (a_0 : PySem.W.findIn K (.ref C) "__init__" = some (some (.ref g0)))
    (i_0 : PySem.W.isFn K (.ref g0) = true)
    (l_0 : K.lookup g0 = some ⟨oc_0, od_0, .func (PySem.W.fnOf "__init__" "Folding.__init__" (defArgs sFoldingInit) (defBody sFoldingInit) (defScope sFoldingInit) (.ref Td) kV_0 dc_0 pm_0 an_0 cd_0 ct_0), sl_0⟩)
    (c_0 : PySem.W.codeIn K cd_0 "Folding.__init__" = true)
    (k_0 : PySem.W.keepIn K (.ref g0) = true)
    (lT : K.lookup Td = some ⟨ocT, odT, .seq #[.ref Ed] nT, slT⟩)
    (a_1 : PySem.W.findIn K (.ref C) "__call__" = some (some (.ref g1)))
    (i_1 : PySem.W.isFn K (.ref g1) = true)
    (l_1 : K.lookup g1 = some ⟨oc_1, od_1, .func (PySem.W.fnOf "__call__" "Folding.__call__" (defArgs sFoldingCall) (defBody sFoldingCall) (defScope sFoldingCall) .none kV_1 dc_1 pm_1 an_1 cd_1 ct_1), sl_1⟩)
    (c_1 : PySem.W.codeIn K cd_1 "Folding.__call__" = true)
    (k_1 : PySem.W.keepIn K (.ref g1) = true)
    (fi_1 : PySem.W.fnIn K g1 = true)
    (a_2 : PySem.W.findIn K (.ref C) "__len__" = some (some (.ref g2)))
    (i_2 : PySem.W.isFn K (.ref g2) = true)
    (l_2 : K.lookup g2 = some ⟨oc_2, od_2, .func (PySem.W.fnOf "__len__" "Folding.__len__" (defArgs sFoldingLen) (defBody sFoldingLen) (defScope sFoldingLen) .none kV_2 dc_2 pm_2 an_2 cd_2 ct_2), sl_2⟩)
    (c_2 : PySem.W.codeIn K cd_2 "Folding.__len__" = true)
    (k_2 : PySem.W.keepIn K (.ref g2) = true)
    (a_3 : PySem.W.findIn K (.ref C) "steps" = some (some (.ref g3)))
    (i_3 : PySem.W.isFn K (.ref g3) = true)
    (l_3 : K.lookup g3 = some ⟨oc_3, od_3, .func (PySem.W.fnOf "steps" "Folding.steps" (defArgs sFoldingSteps) (defBody sFoldingSteps) (defScope sFoldingSteps) .none kV_3 dc_3 pm_3 an_3 cd_3 ct_3), sl_3⟩)
    (c_3 : PySem.W.codeIn K cd_3 "Folding.steps" = true)
    (k_3 : PySem.W.keepIn K (.ref g3) = true)
    (a_4 : PySem.W.findIn K (.ref D) "__init__" = some (some (.ref g4)))
    (i_4 : PySem.W.isFn K (.ref g4) = true)
    (l_4 : K.lookup g4 = some ⟨oc_4, od_4, .func (PySem.W.fnOf "__init__" "Doors.__init__" (defArgs sDoorsInit) (defBody sDoorsInit) (defScope sDoorsInit) .none kV_4 dc_4 pm_4 an_4 cd_4 ct_4), sl_4⟩)
    (c_4 : PySem.W.codeIn K cd_4 "Doors.__init__" = true)
    (k_4 : PySem.W.keepIn K (.ref g4) = true)
    (a_5 : PySem.W.findIn K (.ref D) "put" = some (some (.ref g5)))
    (i_5 : PySem.W.isFn K (.ref g5) = true)
    (l_5 : K.lookup g5 = some ⟨oc_5, od_5, .func (PySem.W.fnOf "put" "Doors.put" (defArgs sDoorsPut) (defBody sDoorsPut) (defScope sDoorsPut) .none kV_5 dc_5 pm_5 an_5 cd_5 ct_5), sl_5⟩)
    (c_5 : PySem.W.codeIn K cd_5 "Doors.put" = true)
    (k_5 : PySem.W.keepIn K (.ref g5) = true)
    (a_6 : PySem.W.findIn K (.ref D) "find" = some (some (.ref g6)))
    (i_6 : PySem.W.isFn K (.ref g6) = true)
    (l_6 : K.lookup g6 = some ⟨oc_6, od_6, .func (PySem.W.fnOf "find" "Doors.find" (defArgs sDoorsFind) (defBody sDoorsFind) (defScope sDoorsFind) .none kV_6 dc_6 pm_6 an_6 cd_6 ct_6), sl_6⟩)
    (c_6 : PySem.W.codeIn K cd_6 "Doors.find" = true)
    (k_6 : PySem.W.keepIn K (.ref g6) = true)
    (a_7 : PySem.W.findIn K (.ref D) "strike" = some (some (.ref g7)))
    (i_7 : PySem.W.isFn K (.ref g7) = true)
    (l_7 : K.lookup g7 = some ⟨oc_7, od_7, .func (PySem.W.fnOf "strike" "Doors.strike" (defArgs sDoorsStrike) (defBody sDoorsStrike) (defScope sDoorsStrike) .none kV_7 dc_7 pm_7 an_7 cd_7 ct_7), sl_7⟩)
    (c_7 : PySem.W.codeIn K cd_7 "Doors.strike" = true)
    (k_7 : PySem.W.keepIn K (.ref g7) = true)
    (a_8 : PySem.W.findIn K (.ref D) "wish" = some (some (.ref g8)))
    (i_8 : PySem.W.isFn K (.ref g8) = true)
    (l_8 : K.lookup g8 = some ⟨oc_8, od_8, .func (PySem.W.fnOf "wish" "Doors.wish" (defArgs sDoorsWish) (defBody sDoorsWish) (defScope sDoorsWish) .none kV_8 dc_8 pm_8 an_8 cd_8 ct_8), sl_8⟩)
    (c_8 : PySem.W.codeIn K cd_8 "Doors.wish" = true)
    (k_8 : PySem.W.keepIn K (.ref g8) = true)
    (a_9 : PySem.W.findIn K (.ref CN) "__init__" = some (some (.ref g9)))
    (i_9 : PySem.W.isFn K (.ref g9) = true)
    (l_9 : K.lookup g9 = some ⟨oc_9, od_9, .func (PySem.W.fnOf "__init__" "NoStep.__init__" (defArgs sNostepInit) (defBody sNostepInit) (defScope sNostepInit) .none kV_9 dc_9 pm_9 an_9 cd_9 ct_9), sl_9⟩)
    (c_9 : PySem.W.codeIn K cd_9 "NoStep.__init__" = true)
    (k_9 : PySem.W.keepIn K (.ref g9) = true)
    (a_10 : PySem.W.findIn K (.ref CQ) "__init__" = some (some (.ref g10)))
    (i_10 : PySem.W.isFn K (.ref g10) = true)
    (l_10 : K.lookup g10 = some ⟨oc_10, od_10, .func (PySem.W.fnOf "__init__" "NoPart.__init__" (defArgs sNopartInit) (defBody sNopartInit) (defScope sNopartInit) .none kV_10 dc_10 pm_10 an_10 cd_10 ct_10), sl_10⟩)
    (c_10 : PySem.W.codeIn K cd_10 "NoPart.__init__" = true)
    (k_10 : PySem.W.keepIn K (.ref g10) = true)
    (a_11 : PySem.W.findIn K (.ref CL) "__init__" = some (some (.ref g11)))
    (i_11 : PySem.W.isFn K (.ref g11) = true)
    (l_11 : K.lookup g11 = some ⟨oc_11, od_11, .func (PySem.W.fnOf "__init__" "NoLine.__init__" (defArgs sNolineInit) (defBody sNolineInit) (defScope sNolineInit) .none kV_11 dc_11 pm_11 an_11 cd_11 ct_11), sl_11⟩)
    (c_11 : PySem.W.codeIn K cd_11 "NoLine.__init__" = true)
    (k_11 : PySem.W.keepIn K (.ref g11) = true)
    (pg : PySem.W.plainGet K C Str.empty = true)
    (hd : PySem.W.hasDictIn K C = true)
    (po : PySem.W.plainOver K C = true)
    (sa : PySem.W.findIn K (.ref C) "__setattr__" = some (some (.builtin "object.__setattr__")))
    (mkC : PySem.W.makesIn K C = true)
    (kc : PySem.W.keepIn K (.ref C) = true)
    (pgD : PySem.W.plainGet K D Str.empty = true)
    (hdD : PySem.W.hasDictIn K D = true)
    (poD : PySem.W.plainOver K D = true)
    (saD : PySem.W.findIn K (.ref D) "__setattr__" = some (some (.builtin "object.__setattr__")))
    (mkD : PySem.W.makesIn K D = true)
    (kcD : PySem.W.keepIn K (.ref D) = true)
    (nD0 : PySem.W.findIn K (.ref D) "_put" = some none)
    (nD1 : PySem.W.findIn K (.ref D) "_find" = some none)
    (nD2 : PySem.W.findIn K (.ref D) "_strike" = some none)
    (nD3 : PySem.W.findIn K (.ref D) "_wish" = some none)
    (xc : PySem.W.findIn K (.ref C) "__class__" = some (some (.builtin "object.__class__")))
    (xn : PySem.W.specialIn K (.builtin "object.__class__") "__get__" = some (some (.builtin "getset_descriptor.__get__")))
    (xt : PySem.W.takesIn K (.builtin "object.__class__") = some true)
    (xm : PySem.W.mroIn K C (.type "object") = some true)
    (nl : PySem.W.nsIn K mainGlobals "list" = some none)
    (nV : PySem.W.nsIn K mainGlobals "ValueError" = some none)
    (lE : K.lookup Ed = some ⟨.type "tuple", odE, .seq #[] nE, slE⟩)
    (xb : PySem.W.nsIn K mainGlobals "BETWEEN_STEPS" = some (some (.str "; " tb)))
    (xw : PySem.W.nsIn K mainGlobals "WITHOUT_STEPS" = some (some (.str "plain" tw)))
    (xd : PySem.W.nsIn K mainGlobals "DIGITS" = some (some (.str "0123456789" td)))
    (xB : PySem.W.nsIn K mainGlobals "BEGINNINGS" = some (some (.ref Bd)))
    (lB : K.lookup Bd = some ⟨.type "tuple", odB, .seq #[.str "put: " u1, .str "find: " u2, .str "strike: " u3, .str "wish: " u4] nB, slB⟩)
    (xcD : PySem.W.findIn K (.ref D) "__class__" = some (some (.builtin "object.__class__")))
    (xmD : PySem.W.mroIn K D (.type "object") = some true)
    (lCN : K.lookup CN = some (excClassObj nm qn CN NN bs bm true sn sub ab col dd q0 q1 q2 q3 q5 "ValueError.__new__"))
    (rCN : PySem.HandSPX.refsVE bm = true)
    (sCN : PySem.W.findIn K (.ref CN) "__setattr__" = some (some (.builtin "object.__setattr__")))
    (iCN : PySem.W.findIn K (.ref CN) "index" = some none)
    (tgCN : PySem.W.typeIn K (.ref g9) = some (.type "function"))
    (kCN : PySem.W.keepIn K (.ref CN) = true)
    (bCN : PySem.W.subIn K (.ref CN) (.type "BaseException") = some true)
    (tCN : PySem.W.typeIn K (.ref CN) = some (.type "type"))
    (jCN : PySem.W.isClsIn K CN = true)
    (dCN : PySem.W.hasDictIn K CN = true)
    (pCN : PySem.W.subIn K (.ref CN) (.ref CP) = some true)
    (egCN : PySem.W.findIn K (.ref CN) "__getattribute__" = some (some (.builtin "BaseException.__getattribute__")))
    (ekCN : PySem.W.findIn K (.ref CN) "__getattr__" = some none)
    (eaCN : PySem.W.findIn K (.ref CN) "__class__" = some (some (.builtin "object.__class__")))
    (emCN : PySem.W.mroIn K CN (.type "object") = some true)
    (vCN : PySem.W.subIn K (.ref CN) (.type "ValueError") = some true)
    (mCN : PySem.W.subIn K (.ref CN) (.ref CN) = some true)
    (lCQ : K.lookup CQ = some (excClassObj nm' qn' CQ NN' bs' bm' true sn' sub' ab' col' dd' q0' q1' q2' q3' q5' "ValueError.__new__"))
    (rCQ : PySem.HandSPX.refsVE bm' = true)
    (sCQ : PySem.W.findIn K (.ref CQ) "__setattr__" = some (some (.builtin "object.__setattr__")))
    (iCQ : PySem.W.findIn K (.ref CQ) "part" = some none)
    (tgCQ : PySem.W.typeIn K (.ref g10) = some (.type "function"))
    (kCQ : PySem.W.keepIn K (.ref CQ) = true)
    (bCQ : PySem.W.subIn K (.ref CQ) (.type "BaseException") = some true)
    (tCQ : PySem.W.typeIn K (.ref CQ) = some (.type "type"))
    (jCQ : PySem.W.isClsIn K CQ = true)
    (dCQ : PySem.W.hasDictIn K CQ = true)
    (pCQ : PySem.W.subIn K (.ref CQ) (.ref CP) = some true)
    (egCQ : PySem.W.findIn K (.ref CQ) "__getattribute__" = some (some (.builtin "BaseException.__getattribute__")))
    (ekCQ : PySem.W.findIn K (.ref CQ) "__getattr__" = some none)
    (eaCQ : PySem.W.findIn K (.ref CQ) "__class__" = some (some (.builtin "object.__class__")))
    (emCQ : PySem.W.mroIn K CQ (.type "object") = some true)
    (vCQ : PySem.W.subIn K (.ref CQ) (.type "ValueError") = some true)
    (mCQ : PySem.W.subIn K (.ref CQ) (.ref CQ) = some true)
    (lCL : K.lookup CL = some (excClassObj nm'' qn'' CL NN'' bs'' bm'' true sn'' sub'' ab'' col'' dd'' q0'' q1'' q2'' q3'' q5'' "ValueError.__new__"))
    (rCL : PySem.HandSPX.refsVE bm'' = true)
    (sCL : PySem.W.findIn K (.ref CL) "__setattr__" = some (some (.builtin "object.__setattr__")))
    (iCL : PySem.W.findIn K (.ref CL) "line" = some none)
    (tgCL : PySem.W.typeIn K (.ref g11) = some (.type "function"))
    (kCL : PySem.W.keepIn K (.ref CL) = true)
    (bCL : PySem.W.subIn K (.ref CL) (.type "BaseException") = some true)
    (tCL : PySem.W.typeIn K (.ref CL) = some (.type "type"))
    (jCL : PySem.W.isClsIn K CL = true)
    (dCL : PySem.W.hasDictIn K CL = true)
    (pCL : PySem.W.subIn K (.ref CL) (.ref CP) = some true)
    (egCL : PySem.W.findIn K (.ref CL) "__getattribute__" = some (some (.builtin "BaseException.__getattribute__")))
    (ekCL : PySem.W.findIn K (.ref CL) "__getattr__" = some none)
    (eaCL : PySem.W.findIn K (.ref CL) "__class__" = some (some (.builtin "object.__class__")))
    (emCL : PySem.W.mroIn K CL (.type "object") = some true)
    (vCL : PySem.W.subIn K (.ref CL) (.type "ValueError") = some true)
    (mCL : PySem.W.subIn K (.ref CL) (.ref CL) = some true)
    (rg : PySem.W.specialIn K (.ref CP) "__getattribute__" = some (some (.builtin "type.__getattribute__")))
    (rd : PySem.W.readsIn K CP (.type "type") = true)
    (vV : PySem.W.findCls K (.ref CP) (.type "type") "__init__" = some (.val (.builtin "ValueError.__init__")))
    (bP : PySem.W.subIn K (.ref CP) (.type "BaseException") = some true)
    (dP : PySem.W.hasDictIn K CP = true)
    (tP : PySem.W.typeIn K (.ref CP) = some (.type "type"))
    (sNQ : PySem.W.subIn K (.ref CN) (.ref CQ) = some false)
    (sQN : PySem.W.subIn K (.ref CQ) (.ref CN) = some false)
    (sLQ : PySem.W.subIn K (.ref CL) (.ref CQ) = some false)
    (n0 : PySem.W.findIn K (.ref C) "_steps" = some none)
    (v0 : PySem.W.nsIn K mainGlobals "CHARACTERS" = some (some (.str "abcdefghijklmnopqrstuvwxyzABCDEFGHIJKLMNOPQRSTUVWXYZ0123456789 -._/'" t0)))
    (v1 : PySem.W.nsIn K mainGlobals "LONGEST_TEXT" = some (some (.int 60 t1)))
    (v2 : PySem.W.nsIn K mainGlobals "MOST_DROPPED" = some (some (.int 10 t2)))
    (v3 : PySem.W.nsIn K mainGlobals "LONGEST_CUT" = some (some (.int 9 t3)))
    (v4 : PySem.W.nsIn K mainGlobals "MOST_STEPS" = some (some (.int 6 t4)))
    (z0 : PySem.W.nsIn K mainGlobals "len" = some none)
    (z1 : PySem.W.nsIn K mainGlobals "int" = some none)
    (z2 : PySem.W.nsIn K mainGlobals "abs" = some none)
    (z3 : PySem.W.nsIn K mainGlobals "max" = some none)
    (z4 : PySem.W.nsIn K mainGlobals "min" = some none)
    (z5 : PySem.W.nsIn K mainGlobals "range" = some none)
    (z6 : PySem.W.nsIn K mainGlobals "isinstance" = some none)
    (z7 : PySem.W.nsIn K mainGlobals "str" = some none)
    (z8 : PySem.W.nsIn K mainGlobals "tuple" = some none)
    (z9 : PySem.W.nsIn K mainGlobals "bool" = some none)
    (z10 : PySem.W.nsIn K mainGlobals "all" = some none)
    (z11 : PySem.W.nsIn K mainGlobals "set" = some none)
    (z12 : PySem.W.nsIn K mainGlobals "enumerate" = some none)
    (zs : PySem.W.nsIn K cStatics sharingNotToldKey = some none) :
    ∃ fd : FuncData, (∀ (s : Shared) (v : Value), BindsTo s fd ⟨[v], []⟩ [("script", v)]) ∧ ∀ base : Heap, K.In base → base.Ns mainGlobals mg → FnOk l.prog w K mg base CX0 11 fa fd ["script"] (spLaw K) := by
  have e := hfa.symm.trans (PySem.W.mg_of X G a37)
  cases e
  have T : Nms mg := by
    constructor
    · exact PySem.W.mg_none_of X G z0
    · exact PySem.W.mg_none_of X G z1
    · exact PySem.W.mg_none_of X G z2
    · exact PySem.W.mg_none_of X G z3
    · exact PySem.W.mg_none_of X G z4
    · exact PySem.W.mg_none_of X G z5
    · exact PySem.W.mg_none_of X G z6
    · exact PySem.W.mg_none_of X G z7
    · exact PySem.W.mg_none_of X G z8
    · exact PySem.W.mg_none_of X G z9
    · exact PySem.W.mg_none_of X G z10
    · exact PySem.W.mg_none_of X G z11
    · exact PySem.W.mg_none_of X G z12
  have Cs : Cst mg := by
    constructor
    · exact ⟨_, PySem.W.mg_of X G v0⟩
    · exact ⟨_, PySem.W.mg_of X G v1⟩
    · exact ⟨_, PySem.W.mg_of X G v2⟩
    · exact ⟨_, PySem.W.mg_of X G v3⟩
    · exact ⟨_, PySem.W.mg_of X G v4⟩
  have F0 := fun_mk (st := sIsCharacter) l0 c0 k0
  have b0 := F0.binds (ps := ["value"]) fun _ _ _ _ _ _ us hl => match us, hl with | [_], _ => rfl
  have m0 := PySem.W.mg_of X G a0
  have F1 := fun_mk (st := sIsText) l1 c1 k1
  have b1 := F1.binds (ps := ["value"]) fun _ _ _ _ _ _ us hl => match us, hl with | [_], _ => rfl
  have m1 := PySem.W.mg_of X G a1
  have F2 := fun_mk (st := sIsInteger) l2 c2 k2
  have b2 := F2.binds (ps := ["value"]) fun _ _ _ _ _ _ us hl => match us, hl with | [_], _ => rfl
  have m2 := PySem.W.mg_of X G a2
  have F3 := fun_mk (st := sIsStep) l3 c3 k3
  have b3 := F3.binds (ps := ["value"]) fun _ _ _ _ _ _ us hl => match us, hl with | [_], _ => rfl
  have m3 := PySem.W.mg_of X G a3
  have F4 := fun_mk (st := sIsChoice) l4 c4 k4
  have b4 := F4.binds (ps := ["value"]) fun _ _ _ _ _ _ us hl => match us, hl with | [_], _ => rfl
  have m4 := PySem.W.mg_of X G a4
  have F5 := fun_mk (st := sMadeBySteps) l5 c5 k5
  have b5 := F5.binds (ps := ["steps", "text"]) fun _ _ _ _ _ _ us hl => match us, hl with | [_, _], _ => rfl
  have m5 := PySem.W.mg_of X G a5
  have F6 := fun_mk (st := sMadeByStep) l6 c6 k6
  have b6 := F6.binds (ps := ["step", "text"]) fun _ _ _ _ _ _ us hl => match us, hl with | [_, _], _ => rfl
  have m6 := PySem.W.mg_of X G a6
  have F7 := fun_mk (st := sOnce) l7 c7 k7
  have b7 := F7.binds (ps := ["text", "single"]) fun _ _ _ _ _ _ us hl => match us, hl with | [_, _], _ => rfl
  have m7 := PySem.W.mg_of X G a7
  have F8 := fun_mk (st := sReadFolding) l8 c8 k8
  have b8 := F8.binds (ps := ["text"]) fun _ _ _ _ _ _ us hl => match us, hl with | [_], _ => rfl
  have m8 := PySem.W.mg_of X G a8
  have F9 := fun_mk (st := sStepOf) l9 c9 k9
  have b9 := F9.binds (ps := ["part"]) fun _ _ _ _ _ _ us hl => match us, hl with | [_], _ => rfl
  have m9 := PySem.W.mg_of X G a9
  have F10 := fun_mk (st := sNumberOf) l10 c10 k10
  have b10 := F10.binds (ps := ["word"]) fun _ _ _ _ _ _ us hl => match us, hl with | [_], _ => rfl
  have m10 := PySem.W.mg_of X G a10
  have F11 := fun_mk (st := sReadDoors) l11 c11 k11
  have b11 := F11.binds (ps := ["text"]) fun _ _ _ _ _ _ us hl => match us, hl with | [_], _ => rfl
  have m11 := PySem.W.mg_of X G a11
  have F12 := fun_mk (st := sFoldingOf) l12 c12 k12
  have b12 := F12.binds (ps := ["at", "line"]) fun _ _ _ _ _ _ us hl => match us, hl with | [_, _], _ => rfl
  have m12 := PySem.W.mg_of X G a12
  have F13 := fun_mk (st := sLawWell) l13 c13 k13
  have b13 := F13.binds (ps := ["script", "k"]) fun _ _ _ _ _ _ us hl => match us, hl with | [_, _], _ => rfl
  have m13 := PySem.W.mg_of X G a13
  have F14 := fun_mk (st := sLawDraw) l14 c14 k14
  have b14 := F14.binds (ps := ["well", "many"]) fun _ _ _ _ _ _ us hl => match us, hl with | [_, _], _ => rfl
  have m14 := PySem.W.mg_of X G a14
  have F15 := fun_mk (st := sLawChars) l15 c15 k15
  have b15 := F15.binds (ps := []) fun _ _ _ _ _ _ us hl => match us, hl with | [], _ => rfl
  have m15 := PySem.W.mg_of X G a15
  have F16 := fun_mk (st := sLawPool) l16 c16 k16
  have b16 := F16.binds (ps := ["well"]) fun _ _ _ _ _ _ us hl => match us, hl with | [_], _ => rfl
  have m16 := PySem.W.mg_of X G a16
  have F17 := fun_mk (st := sLawCharacter) l17 c17 k17
  have b17 := F17.binds (ps := ["well", "pool"]) fun _ _ _ _ _ _ us hl => match us, hl with | [_, _], _ => rfl
  have m17 := PySem.W.mg_of X G a17
  have F18 := fun_mk (st := sLawStep) l18 c18 k18
  have b18 := F18.binds (ps := ["well", "pool"]) fun _ _ _ _ _ _ us hl => match us, hl with | [_, _], _ => rfl
  have m18 := PySem.W.mg_of X G a18
  have F19 := fun_mk (st := sLawSteps) l19 c19 k19
  have b19 := F19.binds (ps := ["well", "pool"]) fun _ _ _ _ _ _ us hl => match us, hl with | [_, _], _ => rfl
  have m19 := PySem.W.mg_of X G a19
  have F20 := fun_mk (st := sLawPart) l20 c20 k20
  have b20 := F20.binds (ps := ["step"]) fun _ _ _ _ _ _ us hl => match us, hl with | [_], _ => rfl
  have m20 := PySem.W.mg_of X G a20
  have F21 := fun_mk (st := sLawFoldingText) l21 c21 k21
  have b21 := F21.binds (ps := ["steps"]) fun _ _ _ _ _ _ us hl => match us, hl with | [_], _ => rfl
  have m21 := PySem.W.mg_of X G a21
  have F22 := fun_mk (st := sLawSame) l22 c22 k22
  have b22 := F22.binds (ps := ["actual", "expected"]) fun _ _ _ _ _ _ us hl => match us, hl with | [_, _], _ => rfl
  have m22 := PySem.W.mg_of X G a22
  have F23 := fun_mk (st := sLawDoors) l23 c23 k23
  have b23 := F23.binds (ps := ["well", "pool"]) fun _ _ _ _ _ _ us hl => match us, hl with | [_, _], _ => rfl
  have m23 := PySem.W.mg_of X G a23
  have F24 := fun_mk (st := sLawDoorsText) l24 c24 k24
  have b24 := F24.binds (ps := ["four"]) fun _ _ _ _ _ _ us hl => match us, hl with | [_], _ => rfl
  have m24 := PySem.W.mg_of X G a24
  have F25 := fun_mk (st := sLawWhole) l25 c25 k25
  have b25 := F25.binds (ps := ["actual", "expected"]) fun _ _ _ _ _ _ us hl => match us, hl with | [_, _], _ => rfl
  have m25 := PySem.W.mg_of X G a25
  have F26 := fun_mk (st := sLawGuess) l26 c26 k26
  have b26 := F26.binds (ps := ["part"]) fun _ _ _ _ _ _ us hl => match us, hl with | [_], _ => rfl
  have m26 := PySem.W.mg_of X G a26
  have F27 := fun_mk (st := sLawIsStep) l27 c27 k27
  have b27 := F27.binds (ps := ["step"]) fun _ _ _ _ _ _ us hl => match us, hl with | [_], _ => rfl
  have m27 := PySem.W.mg_of X G a27
  have F28 := fun_mk (st := sLawRead) l28 c28 k28
  have b28 := F28.binds (ps := ["page"]) fun _ _ _ _ _ _ us hl => match us, hl with | [_], _ => rfl
  have m28 := PySem.W.mg_of X G a28
  have F29 := fun_mk (st := sLawEdit) l29 c29 k29
  have b29 := F29.binds (ps := ["well", "page"]) fun _ _ _ _ _ _ us hl => match us, hl with | [_, _], _ => rfl
  have m29 := PySem.W.mg_of X G a29
  have F30 := fun_mk (st := sLawNearPart) l30 c30 k30
  have b30 := F30.binds (ps := ["well", "one"]) fun _ _ _ _ _ _ us hl => match us, hl with | [_, _], _ => rfl
  have m30 := PySem.W.mg_of X G a30
  have F31 := fun_mk (st := sLawSpoilt) l31 c31 k31
  have b31 := F31.binds (ps := ["well", "pool", "page"]) fun _ _ _ _ _ _ us hl => match us, hl with | [_, _, _], _ => rfl
  have m31 := PySem.W.mg_of X G a31
  have F32 := fun_mk (st := sLawDue) l32 c32 k32
  have b32 := F32.binds (ps := ["page"]) fun _ _ _ _ _ _ us hl => match us, hl with | [_], _ => rfl
  have m32 := PySem.W.mg_of X G a32
  have F33 := fun_mk (st := sLawSpoiltLines) l33 c33 k33
  have b33 := F33.binds (ps := ["well", "pool", "page"]) fun _ _ _ _ _ _ us hl => match us, hl with | [_, _, _], _ => rfl
  have m33 := PySem.W.mg_of X G a33
  have F34 := fun_mk (st := sLawTried) l34 c34 k34
  have b34 := F34.binds (ps := ["page"]) fun _ _ _ _ _ _ us hl => match us, hl with | [_], _ => rfl
  have m34 := PySem.W.mg_of X G a34
  have F35 := fun_mk (st := sLawClasses) l35 c35 k35
  have b35 := F35.binds (ps := ["page"]) fun _ _ _ _ _ _ us hl => match us, hl with | [_], _ => rfl
  have m35 := PySem.W.mg_of X G a35
  have F36 := fun_mk (st := sLawRight) l36 c36 k36
  have b36 := F36.binds (ps := ["page", "due"]) fun _ _ _ _ _ _ us hl => match us, hl with | [_, _], _ => rfl
  have m36 := PySem.W.mg_of X G a36
  have F37 := fun_mk (st := sLaw) l37 c37 k37
  have b37 := F37.binds (ps := ["script"]) fun _ _ _ _ _ _ us hl => match us, hl with | [_], _ => rfl
  have m37 := PySem.W.mg_of X G a37
  have Z : Fcl K mg C := ⟨⟨pg, hd, po, sa⟩, n0, PySem.W.mg_of X G aC⟩
  have FI : FunD K "__init__" "Folding.__init__" (defArgs sFoldingInit) (defBody sFoldingInit) (defScope sFoldingInit) [.ref Ed] [] g0 (PySem.W.fnOf "__init__" "Folding.__init__" (defArgs sFoldingInit) (defBody sFoldingInit) (defScope sFoldingInit) (.ref Td) kV_0 dc_0 pm_0 an_0 cd_0 ct_0) := ⟨⟨_, _, _, _, _, _, _, _, _, _, rfl, l_0, c_0, .inr ⟨List.cons_ne_nil _ _, Td, _, [.ref Ed], nT, rfl, lT, rfl, .cons rfl .nil⟩, .inl rfl⟩, k_0⟩
  have FC := fun_mk (st := sFoldingCall) l_1 c_1 k_1
  have bC := FC.binds (ps := ["self", "text"]) fun _ _ _ _ _ _ us hl => match us, hl with | [_, _], _ => rfl
  have bI : Binds K (PySem.W.fnOf "__init__" "Folding.__init__" (defArgs sFoldingInit) (defBody sFoldingInit) (defScope sFoldingInit) (.ref Td) kV_0 dc_0 pm_0 an_0 cd_0 ct_0) ["self", "steps"] [] := by
    obtain ⟨ds, r, b⟩ := FI.binds1 (ps := ["self", "steps"]) 2 1 (List.cons_ne_nil _ _) rfl fun T kV doc pm an cdv ct us its h1 h2 => match us, its, h1, h2 with
      | [_, _], [_], _, _ => ⟨_, rfl, rfl⟩
    cases r
    exact b
  have FL := fun_mk (st := sFoldingLen) l_2 c_2 k_2
  have bL := FL.binds (ps := ["self"]) fun _ _ _ _ _ _ us hl => match us, hl with | [_], _ => rfl
  have FS := fun_mk (st := sFoldingSteps) l_3 c_3 k_3
  have bS := FS.binds (ps := ["self"]) fun _ _ _ _ _ _ us hl => match us, hl with | [_], _ => rfl
  have IC : C8.InsC K C := ⟨⟨pg, hd, po, sa⟩, xc, xn, xt, xm, by unfold PySem.W.kitOne; rw [if_pos (beq_self_eq_true _)]⟩
  have ZD : Dcl K mg D := ⟨⟨pgD, hdD, poD, saD⟩, nD0, nD1, nD2, nD3, PySem.W.mg_of X G aD⟩
  have FD0 := fun_mk (st := sDoorsInit) l_4 c_4 k_4
  have bD0 := FD0.binds (ps := ["self", "put", "find", "strike", "wish"]) fun _ _ _ _ _ _ us hl => match us, hl with | [_, _, _, _, _], _ => rfl
  have FD1 := fun_mk (st := sDoorsPut) l_5 c_5 k_5
  have bD1 := FD1.binds (ps := ["self"]) fun _ _ _ _ _ _ us hl => match us, hl with | [_], _ => rfl
  have FD2 := fun_mk (st := sDoorsFind) l_6 c_6 k_6
  have bD2 := FD2.binds (ps := ["self"]) fun _ _ _ _ _ _ us hl => match us, hl with | [_], _ => rfl
  have FD3 := fun_mk (st := sDoorsStrike) l_7 c_7 k_7
  have bD3 := FD3.binds (ps := ["self"]) fun _ _ _ _ _ _ us hl => match us, hl with | [_], _ => rfl
  have FD4 := fun_mk (st := sDoorsWish) l_8 c_8 k_8
  have bD4 := FD4.binds (ps := ["self"]) fun _ _ _ _ _ _ us hl => match us, hl with | [_], _ => rfl
  obtain ⟨ds, rds, bds⟩ := FI.binds1 (ps := ["self", "steps"]) 1 0 (List.cons_ne_nil _ _) rfl fun T kV doc pm an cdv ct us its h1 h2 => match us, its, h1, h2 with
    | [_], [_], _, _ => ⟨_, rfl, rfl⟩
  have RE : ∀ H : Hp, RowQ K H Ed [] := fun H => ⟨[], .inr ⟨_, #[], nE, lE, rfl, rfl, by show 0 ≤ sizeLine; decide, .nil⟩, .nil⟩
  refine ⟨PySem.W.fnOf "law" "law" (defArgs sLaw) (defBody sLaw) (defScope sLaw) .none kV37 dc37 pm37 an37 cd37 ct37, fun s v => .of_eq rfl, fun base KB GB => ?_⟩
  have Cchar : Cl l.prog w K mg base 1 "is_character" spIsChar := ⟨f0, _, _, ok_isChar F0 T Cs, m0, k0, b0⟩
  have Ctext : Cl l.prog w K mg base 1 "is_text" spIsText := ⟨f1, _, _, ok_isText F1 T Cs, m1, k1, b1⟩
  have Cint : Cl l.prog w K mg base 1 "is_integer" spIsInt := ⟨f2, _, _, ok_isInt F2 T, m2, k2, b2⟩
  have Cchoice : Cl l.prog w K mg base 2 "_is_choice" spIsChoice := ⟨f4, _, _, ok_isChoice F4 T Cs Cchar, m4, k4, b4⟩
  have Cstep : Cl l.prog w K mg base 3 "is_step" spIsStep := ⟨f3, _, _, ok_isStep F3 T Cs Cchar Cchoice Cint, m3, k3, b3⟩
  have Conce : Cl l.prog w K mg base 1 "_once" spOnce := ⟨f7, _, _, ok_once F7 T, m7, k7, b7⟩
  have Cmbs : Cl l.prog w K mg base 2 "made_by_step" spMade := ⟨f6, _, _, ok_madeByStep F6 T zs Conce, m6, k6, b6⟩
  have Cmss : Cl l.prog w K mg base 3 "made_by_steps" (spMadeSteps K) := ⟨f5, _, _, ok_madeBySteps F5 Cmbs, m5, k5, b5⟩
  have Fl : Fol l.prog w K mg base C := ⟨⟨g0, _, ⟨mkC, a_0, i_0, kc⟩, ok_finit FI T Cs Z Cstep, bI⟩, ⟨g1, _, ⟨a_1, i_1, fi_1⟩, ok_fcall FC T Z Ctext Cmss, bC⟩, Z.mgC⟩
  have Fs : FolS l.prog w K mg base C := ⟨Z.cl, ⟨g2, _, a_2, i_2, ok_flen FL T Z, bL⟩, ⟨g3, _, ⟨a_3, i_3, k_3⟩, ok_fsteps FS Z, bS⟩⟩
  have Dd : Drs l.prog w K mg base D := ⟨ZD, ⟨g4, _, ⟨mkD, a_4, i_4, kcD⟩, ok_dinit FD0 ZD, bD0⟩, ⟨g5, _, ⟨a_5, i_5, k_5⟩, ok_dput FD1 ZD, bD1⟩, ⟨g6, _, ⟨a_6, i_6, k_6⟩, ok_dfind FD2 ZD, bD2⟩, ⟨g7, _, ⟨a_7, i_7, k_7⟩, ok_dstrike FD3 ZD, bD3⟩, ⟨g8, _, ⟨a_8, i_8, k_8⟩, ok_dwish FD4 ZD, bD4⟩⟩
  have ml : mg "list" = none := PySem.W.mg_none_of X G nl
  have Cr : CstR mg := ⟨⟨_, PySem.W.mg_of X G xb⟩, ⟨_, PySem.W.mg_of X G xw⟩, ⟨_, PySem.W.mg_of X G xd⟩⟩
  have gPm : mg "PlainError" = some (.ref CP) := PySem.W.mg_of X G gP
  have FNI := fun_mk (st := sNostepInit) l_9 c_9 k_9
  have bNI := FNI.binds (ps := ["self", "index"]) fun _ _ _ _ _ _ us hl => match us, hl with | [_, _], _ => rfl
  have NI : NsC K mg CN CP := ⟨⟨⟨_, _, _, _, _, _, _, _, _, _, _, _, _, _, _, lCN, rCN⟩, sCN, bCN, tCN, kCN⟩, iCN, gPm, rg, rd, vV⟩
  have NR : NsR l.prog w K mg base CN := ⟨NI.o, ⟨g9, _, a_9, tgCN, ok_nsInit FNI NI, bNI⟩, PySem.W.mg_of X G gN⟩
  have FNQ := fun_mk (st := sNopartInit) l_10 c_10 k_10
  have bNQ := FNQ.binds (ps := ["self", "part"]) fun _ _ _ _ _ _ us hl => match us, hl with | [_, _], _ => rfl
  have NQ : NpC K mg CQ CP := ⟨⟨⟨_, _, _, _, _, _, _, _, _, _, _, _, _, _, _, lCQ, rCQ⟩, sCQ, bCQ, tCQ, kCQ⟩, iCQ, gPm, rg, rd, vV⟩
  have QR : NpR l.prog w K mg base CQ := ⟨NQ.o, ⟨g10, _, a_10, tgCQ, ok_npInit FNQ NQ, bNQ⟩, PySem.W.mg_of X G gQ⟩
  have FNL := fun_mk (st := sNolineInit) l_11 c_11 k_11
  have bNL := FNL.binds (ps := ["self", "line"]) fun _ _ _ _ _ _ us hl => match us, hl with | [_, _], _ => rfl
  have NL : NlC K mg CL CP := ⟨⟨⟨_, _, _, _, _, _, _, _, _, _, _, _, _, _, _, lCL, rCL⟩, sCL, bCL, tCL, kCL⟩, iCL, gPm, rg, rd, vV⟩
  have LR : NlR l.prog w K mg base CL := ⟨NL.o, ⟨g11, _, a_11, tgCL, ok_nlInit FNL NL, ok_nlInitH FNL NL, bNL⟩, PySem.W.mg_of X G gL⟩
  have CcharE : Cl l.prog w K mg base 1 "is_character" (spCharE K) := ⟨f0, _, _, ok_charE F0 T Cs, m0, k0, b0⟩
  have CchoE : Cl l.prog w K mg base 2 "_is_choice" (spChoiceE K) := ⟨f4, _, _, ok_choiceE F4 T Cs Cchar, m4, k4, b4⟩
  have CintE : Cl l.prog w K mg base 1 "is_integer" (spIntE K) := ⟨f2, _, _, ok_intE F2 T, m2, k2, b2⟩
  have sQ := ok_isStepQ F3 T Cs Cchar Cchoice Cint
  have CstepQ : Cl l.prog w K mg base 3 "is_step" spIsStepQ := ⟨f3, _, _, sQ, m3, k3, b3⟩
  have CstepU : Cl l.prog w K mg base 3 "is_step" (spStepU K) := ⟨f3, _, _, fnOk_or sQ (ok_stepN F3 T Cs CcharE CchoE CintE) (fun _ _ _ _ h => h), m3, k3, b3⟩
  have mk : Mk K C g0 := ⟨mkC, a_0, i_0, kc⟩
  have FR : FolR l.prog w K mg base C CN CQ := ⟨Z, ⟨g0, _, mk, ok_finitU FI T Cs Z NR CstepQ, bI⟩, ⟨g0, _, ds, Ed, mk, ok_finitQ FI T Cs Z CstepQ, rds, bds, RE⟩, QR⟩
  have Cnum : Cl l.prog w K mg base 1 "_number_of" spNum := ⟨f10, _, _, ok_num F10 T Cr, m10, k10, b10⟩
  have Csof : Cl l.prog w K mg base 2 "_step_of" spStepOf := ⟨f9, _, _, ok_stepOf F9 T Cnum, m9, k9, b9⟩
  have Cd : CstD K mg := ⟨⟨Bd, PySem.W.mg_of X G xB, fun H => .inr ⟨_, _, nB, lB, rfl, rfl, (show 4 ≤ sizeLine by decide), .cons ⟨_, rfl⟩ (.cons ⟨_, rfl⟩ (.cons ⟨_, rfl⟩ (.cons ⟨_, rfl⟩ .nil)))⟩⟩⟩
  have OF := ok_fof F12 T Cd LR NR.g QR.g (exm_any2 (PySem.W.exm_ref bCQ dCQ tCQ sNQ) (exm_me bCN jCN tCN mCN)) (exm_any2 (exm_me bCQ jCQ tCQ mCQ) (PySem.W.exm_ref bCN dCN tCN sQN)) ⟨f8, _, ok_read F8 T Cr FR Csof CstepU, m8, k8, b8⟩
  have OD := ok_readD F11 T Cd LR ZD ⟨g4, _, ⟨mkD, a_4, i_4, kcD⟩, ok_dinit FD0 ZD, bD0⟩ ⟨f12, _, OF, m12, k12, b12⟩
  have XW : DdW l.prog w K mg base C D CL CQ CP := ⟨⟨f11, _, OD, m11, k11, b11, ⟨fun s us ws _ h1 h2 => match us, ws, h1, h2 with | [], [_], _, _ => .of_eq rfl, fun r1 r2 => r1.append r2⟩⟩, PySem.W.mg_of X G aD, ⟨⟨pgD, hdD, poD, saD⟩, xcD, xn, xt, xmD, kit_me⟩, LR.g, QR.g, gPm, PySem.W.mg_none_of X G nV,
    PySem.W.exm_ref bP dP tP pCL, exm_me bCL jCL tCL mCL, ⟨egCL, ekCL, bCL, dCL, eaCL, xn, xt, emCL⟩, ⟨egCL, ekCL, bCL, dCL⟩, iCL, kit_ty_ref vCL, kit_me, kit_ref_no jCQ tCQ sLQ mCL⟩
  have Cwell : Cl l.prog w K mg base 1 "_law_well" (spJar K) := ⟨f13, _, _, ok_well F13 T, m13, k13, b13⟩
  have Cdraw : Cl l.prog w K mg base 1 "_law_draw" spDraw := ⟨f14, _, _, ok_bdraw F14 T, m14, k14, b14⟩
  have Cchars : Cl l.prog w K mg base 1 "_law_chars" spChars := ⟨f15, _, _, ok_chars F15, m15, k15, b15⟩
  have Cpool : Cl l.prog w K mg base 2 "_law_pool" spPool := ⟨f16, _, _, ok_pool F16 T Cdraw Cchars, m16, k16, b16⟩
  have Cchr : ClT l.prog w K mg base 2 "_law_character" spCharacter := ⟨f17, ok_character F17 Cdraw Cchars, m17, k17⟩
  have Cbst : Cl l.prog w K mg base 3 "_law_step" spBstep := ⟨f18, _, _, ok_bstep F18 T Cdraw Cchr, m18, k18, b18⟩
  have Crow : Cl l.prog w K mg base 4 "_law_steps" (spBrow K) := ⟨f19, _, _, ok_bsteps F19 T Cdraw Cbst, m19, k19, b19⟩
  have Clp : Cl l.prog w K mg base 1 "_law_part" spPart := ⟨f20, _, _, ok_lpart F20 T, m20, k20, b20⟩
  have Clt : Cl l.prog w K mg base 2 "_law_folding_text" (spLText K) := ⟨f21, _, _, ok_lftext F21 Clp, m21, k21, b21⟩
  have Csame : Cl l.prog w K mg base 3 "_law_same" (spSame K 2) := ⟨f22, _, _, ok_same F22 T m22 k22 b22 2, m22, k22, b22⟩
  have Clpq : Cl l.prog w K mg base 1 "_law_part" spPartQ := ⟨f20, _, _, ok_lpartQ F20 T, m20, k20, b20⟩
  have Csame3 : Cl l.prog w K mg base 4 "_law_same" (spSame K 3) := ⟨f22, _, _, ok_same F22 T m22 k22 b22 3, m22, k22, b22⟩
  have Cbd : Cl l.prog w K mg base 5 "_law_doors" (spBdoors K) := ⟨f23, _, _, ok_bdoors F23 T Cdraw Cbst Crow, m23, k23, b23⟩
  have Cldt : Cl l.prog w K mg base 3 "_law_doors_text" (spLDText K) := ⟨f24, _, _, ok_ldtext F24 T Clt, m24, k24, b24⟩
  have Cwho : Cl l.prog w K mg base 1 "_law_whole" spWhole := ⟨f25, _, _, ok_whole F25 T, m25, k25, b25⟩
  have Cgu : Cl l.prog w K mg base 1 "_law_guess" spGuess := ⟨f26, _, _, ok_guess F26 T ml, m26, k26, b26⟩
  have Cis : Cl l.prog w K mg base 2 "_law_is_step" (spIsSt K) := ⟨f27, _, _, ok_isStL F27 T ml Cchars, m27, k27, b27⟩
  have Clr : Cl l.prog w K mg base 3 "_law_read" (spLRead K) := ⟨f28, _, _, ok_lread F28 T Cgu Cis Clpq, m28, k28, b28⟩
  have Ced : Cl l.prog w K mg base 2 "_law_edit" spEdit := ⟨f29, _, _, ok_edit F29 T Cdraw, m29, k29, b29⟩
  have Cnp : Cl l.prog w K mg base 2 "_law_near_part" spNearP := ⟨f30, _, _, ok_nearP F30 T Cdraw, m30, k30, b30⟩
  have Csp : Cl l.prog w K mg base 4 "_law_spoilt" spSpoilt := ⟨f31, _, _, ok_spoilt F31 T Cdraw Ced Cnp Cbst Clp, m31, k31, b31⟩
  have Cdu : Cl l.prog w K mg base 4 "_law_due" (spDue K) := ⟨f32, _, _, ok_due F32 T Clr, m32, k32, b32⟩
  have Csl : Cl l.prog w K mg base 5 "_law_spoilt_lines" spSpoilL := ⟨f33, _, _, ok_spoilL F33 T Cdraw Ced Csp, m33, k33, b33⟩
  have Ctr : Cl l.prog w K mg base 9 "_law_tried" (spTriedD K C D) := ⟨f34, _, _, ok_triedD F34 T XW, m34, k34, b34⟩
  have Ccl : Cl l.prog w K mg base 9 "_law_classes" (spClassD K) := ⟨f35, _, _, ok_classD F35 T XW, m35, k35, b35⟩
  have Cri : Cl l.prog w K mg base 10 "_law_right" (spRightD K) := ⟨f36, _, _, ok_rightD F36 T XW Z Dd ⟨g3, _, ⟨a_3, i_3, k_3⟩, ok_fstepsQ FS Z, bS⟩ Ctr Ccl Cwho Csame3, m36, k36, b36⟩
  exact ok_law F37 T Cwell Cdraw Cpool Cbd Cldt Csl Cdu Cri
theorem walk {l : PySem.W.OpenLaw} {q : Program} {loose : List Str} {XP : (Str → Option Value) → Heap → Prop} {YP : World → Heap → Prop} {d : DefRec} {K : Params → PySem.W.Frag} (hn : l.most = some 63) (hdf : d.params.defaults = [])
    (hY : ∀ (w : World) (h : Heap), YP w h → (K w.params).In h)
    (F : ∀ (w : World) (mg : Str → Option Value) (fa : Addr) (h : Heap), (K w.params).In h → h.Ns mainGlobals mg → mg d.name = some (.ref fa) →
      ∃ fd : FuncData, (∀ (s : Shared) (u : Value), BindsTo s fd ⟨[u], []⟩ [("script", u)]) ∧ ∀ base : Heap, (K w.params).In base → base.Ns mainGlobals mg → FnOk l.prog w (K w.params) mg base CX0 11 fa fd ["script"] (spLaw (K w.params))) :
    PySem.W.WalkO q loose XP YP l.row.toRowW d [] (fun f vs => PySem.call f vs) :=
  L2.walk_of (n := 63) (k := 11) (x := "script") (CX := fun _ => CX0) (sp := fun w => spLaw (K w.params)) hn (by decide) hdf ⟨rfl, by decide, by decide⟩ hY F (fun _ _ a ns hl _ hS => ⟨a, ns, rfl, hS, hl, fun _ => rfl⟩) fun _ _ _ _ _ z => z
end Pd
open PySem PySem.W PyProof.Rows
set_option maxRecDepth 100000 in
set_option maxHeartbeats 0 in
theorem PySem.Challenge.cw_plaindoors_k13_doors_texts_refused_holds : PySem.Challenge.rw_plaindoors_k13_doors_texts_refused.Holds := by
  w_on; o_law; k_head; (case hw => w_witness2)
  k_fill
  refine Pd.walk (l := PySem.Challenge.rw_plaindoors_k13_doors_texts_refused) rfl rfl (fun w h Y => PySem.W.kIn_of Y) ?F
  case F =>
    intro w mg fa h KX G hmg
    refine' Pd.all_mk KX G hmg ?a0 ?l0 ?c0 ?k0 ?a1 ?l1 ?c1 ?k1 ?a2 ?l2 ?c2 ?k2 ?a3 ?l3 ?c3 ?k3 ?a4 ?l4 ?c4 ?k4 ?a5 ?l5 ?c5 ?k5 ?a6 ?l6 ?c6 ?k6 ?a7 ?l7 ?c7 ?k7 ?a8 ?l8 ?c8 ?k8 ?a9 ?l9 ?c9 ?k9 ?a10 ?l10 ?c10 ?k10 ?a11 ?l11 ?c11 ?k11 ?a12 ?l12 ?c12 ?k12 ?a13 ?l13 ?c13 ?k13 ?a14 ?l14 ?c14 ?k14 ?a15 ?l15 ?c15 ?k15 ?a16 ?l16 ?c16 ?k16 ?a17 ?l17 ?c17 ?k17 ?a18 ?l18 ?c18 ?k18 ?a19 ?l19 ?c19 ?k19 ?a20 ?l20 ?c20 ?k20 ?a21 ?l21 ?c21 ?k21 ?a22 ?l22 ?c22 ?k22 ?a23 ?l23 ?c23 ?k23 ?a24 ?l24 ?c24 ?k24 ?a25 ?l25 ?c25 ?k25 ?a26 ?l26 ?c26 ?k26 ?a27 ?l27 ?c27 ?k27 ?a28 ?l28 ?c28 ?k28 ?a29 ?l29 ?c29 ?k29 ?a30 ?l30 ?c30 ?k30 ?a31 ?l31 ?c31 ?k31 ?a32 ?l32 ?c32 ?k32 ?a33 ?l33 ?c33 ?k33 ?a34 ?l34 ?c34 ?k34 ?a35 ?l35 ?c35 ?k35 ?a36 ?l36 ?c36 ?k36 ?a37 ?l37 ?c37 ?k37 ?aC ?aD ?gN ?gQ ?gP ?gL ?a_0 ?i_0 ?l_0 ?c_0 ?k_0 ?lT ?a_1 ?i_1 ?l_1 ?c_1 ?k_1 ?fi_1 ?a_2 ?i_2 ?l_2 ?c_2 ?k_2 ?a_3 ?i_3 ?l_3 ?c_3 ?k_3 ?a_4 ?i_4 ?l_4 ?c_4 ?k_4 ?a_5 ?i_5 ?l_5 ?c_5 ?k_5 ?a_6 ?i_6 ?l_6 ?c_6 ?k_6 ?a_7 ?i_7 ?l_7 ?c_7 ?k_7 ?a_8 ?i_8 ?l_8 ?c_8 ?k_8 ?a_9 ?i_9 ?l_9 ?c_9 ?k_9 ?a_10 ?i_10 ?l_10 ?c_10 ?k_10 ?a_11 ?i_11 ?l_11 ?c_11 ?k_11 ?pg ?hd ?po ?sa ?mkC ?kc ?pgD ?hdD ?poD ?saD ?mkD ?kcD ?nD0 ?nD1 ?nD2 ?nD3 ?xc ?xn ?xt ?xm ?nl ?nV ?lE ?xb ?xw ?xd ?xB ?lB ?xcD ?xmD ?lCN ?rCN ?sCN ?iCN ?tgCN ?kCN ?bCN ?tCN ?jCN ?dCN ?pCN ?egCN ?ekCN ?eaCN ?emCN ?vCN ?mCN ?lCQ ?rCQ ?sCQ ?iCQ ?tgCQ ?kCQ ?bCQ ?tCQ ?jCQ ?dCQ ?pCQ ?egCQ ?ekCQ ?eaCQ ?emCQ ?vCQ ?mCQ ?lCL ?rCL ?sCL ?iCL ?tgCL ?kCL ?bCL ?tCL ?jCL ?dCL ?pCL ?egCL ?ekCL ?eaCL ?emCL ?vCL ?mCL ?rg ?rd ?vV ?bP ?dP ?tP ?sNQ ?sQN ?sLQ ?n0 ?v0 ?v1 ?v2 ?v3 ?v4 ?z0 ?z1 ?z2 ?z3 ?z4 ?z5 ?z6 ?z7 ?z8 ?z9 ?z10 ?z11 ?z12 ?zs
    (case a0 => k_is); (case l0 => k_is); (case c0 => k_is); (case k0 => k_is); (case a1 => k_is); (case l1 => k_is)
    (case c1 => k_is); (case k1 => k_is); (case a2 => k_is); (case l2 => k_is); (case c2 => k_is); (case k2 => k_is)
    (case a3 => k_is); (case l3 => k_is); (case c3 => k_is); (case k3 => k_is); (case a4 => k_is); (case l4 => k_is)
    (case c4 => k_is); (case k4 => k_is); (case a5 => k_is); (case l5 => k_is); (case c5 => k_is); (case k5 => k_is)
    (case a6 => k_is); (case l6 => k_is); (case c6 => k_is); (case k6 => k_is); (case a7 => k_is); (case l7 => k_is)
    (case c7 => k_is); (case k7 => k_is); (case a8 => k_is); (case l8 => k_is); (case c8 => k_is); (case k8 => k_is)
    (case a9 => k_is); (case l9 => k_is); (case c9 => k_is); (case k9 => k_is); (case a10 => k_is); (case l10 => k_is)
    (case c10 => k_is); (case k10 => k_is); (case a11 => k_is); (case l11 => k_is); (case c11 => k_is); (case k11 => k_is)
    (case a12 => k_is); (case l12 => k_is); (case c12 => k_is); (case k12 => k_is); (case a13 => k_is); (case l13 => k_is)
    (case c13 => k_is); (case k13 => k_is); (case a14 => k_is); (case l14 => k_is); (case c14 => k_is); (case k14 => k_is)
    (case a15 => k_is); (case l15 => k_is); (case c15 => k_is); (case k15 => k_is); (case a16 => k_is); (case l16 => k_is)
    (case c16 => k_is); (case k16 => k_is); (case a17 => k_is); (case l17 => k_is); (case c17 => k_is); (case k17 => k_is)
    (case a18 => k_is); (case l18 => k_is); (case c18 => k_is); (case k18 => k_is); (case a19 => k_is); (case l19 => k_is)
    (case c19 => k_is); (case k19 => k_is); (case a20 => k_is); (case l20 => k_is); (case c20 => k_is); (case k20 => k_is)
    (case a21 => k_is); (case l21 => k_is); (case c21 => k_is); (case k21 => k_is); (case a22 => k_is); (case l22 => k_is)
    (case c22 => k_is); (case k22 => k_is); (case a23 => k_is); (case l23 => k_is); (case c23 => k_is); (case k23 => k_is)
    (case a24 => k_is); (case l24 => k_is); (case c24 => k_is); (case k24 => k_is); (case a25 => k_is); (case l25 => k_is)
    (case c25 => k_is); (case k25 => k_is); (case a26 => k_is); (case l26 => k_is); (case c26 => k_is); (case k26 => k_is)
    (case a27 => k_is); (case l27 => k_is); (case c27 => k_is); (case k27 => k_is); (case a28 => k_is); (case l28 => k_is)
    (case c28 => k_is); (case k28 => k_is); (case a29 => k_is); (case l29 => k_is); (case c29 => k_is); (case k29 => k_is)
    (case a30 => k_is); (case l30 => k_is); (case c30 => k_is); (case k30 => k_is); (case a31 => k_is); (case l31 => k_is)
    (case c31 => k_is); (case k31 => k_is); (case a32 => k_is); (case l32 => k_is); (case c32 => k_is); (case k32 => k_is)
    (case a33 => k_is); (case l33 => k_is); (case c33 => k_is); (case k33 => k_is); (case a34 => k_is); (case l34 => k_is)
    (case c34 => k_is); (case k34 => k_is); (case a35 => k_is); (case l35 => k_is); (case c35 => k_is); (case k35 => k_is)
    (case a36 => k_is); (case l36 => k_is); (case c36 => k_is); (case k36 => k_is); (case a37 => k_is); (case l37 => k_is)
    (case c37 => k_is); (case k37 => k_is); (case aC => k_is); (case aD => k_is); (case gN => k_is); (case gQ => k_is)
    (case gP => k_is); (case gL => k_is); (case a_0 => k_is); (case i_0 => k_is); (case l_0 => k_is); (case c_0 => k_is)
    (case k_0 => k_is); (case lT => k_is); (case a_1 => k_is); (case i_1 => k_is); (case l_1 => k_is); (case c_1 => k_is)
    (case k_1 => k_is); (case fi_1 => k_is); (case a_2 => k_is); (case i_2 => k_is); (case l_2 => k_is); (case c_2 => k_is)
    (case k_2 => k_is); (case a_3 => k_is); (case i_3 => k_is); (case l_3 => k_is); (case c_3 => k_is); (case k_3 => k_is)
    (case a_4 => k_is); (case i_4 => k_is); (case l_4 => k_is); (case c_4 => k_is); (case k_4 => k_is); (case a_5 => k_is)
    (case i_5 => k_is); (case l_5 => k_is); (case c_5 => k_is); (case k_5 => k_is); (case a_6 => k_is); (case i_6 => k_is)
    (case l_6 => k_is); (case c_6 => k_is); (case k_6 => k_is); (case a_7 => k_is); (case i_7 => k_is); (case l_7 => k_is)
    (case c_7 => k_is); (case k_7 => k_is); (case a_8 => k_is); (case i_8 => k_is); (case l_8 => k_is); (case c_8 => k_is)
    (case k_8 => k_is); (case a_9 => k_is); (case i_9 => k_is); (case l_9 => k_is); (case c_9 => k_is); (case k_9 => k_is)
    (case a_10 => k_is); (case i_10 => k_is); (case l_10 => k_is); (case c_10 => k_is); (case k_10 => k_is); (case a_11 => k_is)
    (case i_11 => k_is); (case l_11 => k_is); (case c_11 => k_is); (case k_11 => k_is); (case pg => k_is); (case hd => k_is)
    (case po => k_is); (case sa => k_is); (case mkC => k_is); (case kc => k_is); (case pgD => k_is); (case hdD => k_is)
    (case poD => k_is); (case saD => k_is); (case mkD => k_is); (case kcD => k_is); (case nD0 => k_is); (case nD1 => k_is)
    (case nD2 => k_is); (case nD3 => k_is); (case xc => k_is); (case xn => k_is); (case xt => k_is); (case xm => k_is)
    (case nl => k_is); (case nV => k_is); (case lE => k_is); (case xb => k_is); (case xw => k_is); (case xd => k_is)
    (case xB => k_is); (case lB => k_is); (case xcD => k_is); (case xmD => k_is); (case lCN => k_is); (case rCN => first | rfl | decide +kernel)
    (case sCN => k_is); (case iCN => k_is); (case tgCN => k_is); (case kCN => k_is); (case bCN => k_is); (case tCN => k_is)
    (case jCN => k_is); (case dCN => k_is); (case pCN => k_is); (case egCN => k_is); (case ekCN => k_is); (case eaCN => k_is)
    (case emCN => k_is); (case vCN => k_is); (case mCN => first | rfl | k_is); (case lCQ => k_is); (case rCQ => first | rfl | decide +kernel); (case sCQ => k_is)
    (case iCQ => k_is); (case tgCQ => k_is); (case kCQ => k_is); (case bCQ => k_is); (case tCQ => k_is); (case jCQ => k_is)
    (case dCQ => k_is); (case pCQ => k_is); (case egCQ => k_is); (case ekCQ => k_is); (case eaCQ => k_is); (case emCQ => k_is)
    (case vCQ => k_is); (case mCQ => first | rfl | k_is); (case lCL => k_is); (case rCL => first | rfl | decide +kernel); (case sCL => k_is); (case iCL => k_is)
    (case tgCL => k_is); (case kCL => k_is); (case bCL => k_is); (case tCL => k_is); (case jCL => k_is); (case dCL => k_is)
    (case pCL => k_is); (case egCL => k_is); (case ekCL => k_is); (case eaCL => k_is); (case emCL => k_is); (case vCL => k_is)
    (case mCL => first | rfl | k_is); (case rg => k_is); (case rd => k_is); (case vV => k_is); (case bP => k_is); (case dP => k_is)
    (case tP => k_is); (case sNQ => k_is); (case sQN => k_is); (case sLQ => k_is); (case n0 => k_is); (case v0 => k_is)
    (case v1 => k_is); (case v2 => k_is); (case v3 => k_is); (case v4 => k_is); (case z0 => k_is); (case z1 => k_is)
    (case z2 => k_is); (case z3 => k_is); (case z4 => k_is); (case z5 => k_is); (case z6 => k_is); (case z7 => k_is)
    (case z8 => k_is); (case z9 => k_is); (case z10 => k_is); (case z11 => k_is); (case z12 => k_is); (case zs => k_is)
