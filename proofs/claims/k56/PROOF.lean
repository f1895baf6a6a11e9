import PyProof.Rows.All
import Wide.All
import OpenK.AllK
import Wide.FinOn
import PyProof.StrReplace2
import KE.GoesEnum
import HandS.ForMost
import HandS.IsInst
import HandS.StrMore
import HandS.Star
import HandS.Defaults
import HandS.MakeKw
import HandS.MakeKwOnly
import HandS.Wide
import HandS.Walk
import HandS.SetTxt0
import HandS.ReplaceList
import HandS.Flow
import HandS.Codes
import HandS.SlotsOwn
import HandS.TryOnly
import HandS.ExcOwn
import HandS.WordsExc
import PyProof.ListStr
import HandS.ExcIs
import HandS.ReplaceLit
import HandS.ReplaceDef
import HandS.RaiseMore
import HandS.TupAny
import HandS.SetKeys
import PyProof.NeKinds
import PyProof.InstNe
import HandS.Zip
import HandS.ExcInit
import HandS.ClsMeth
import HandS.ExcField
import KE.KExcIs
import HandS.Strs
import PyProof.StrWalks
import HandS.SortInts
import HandS.More
import HandS.Style
import HandS.Rev
import PyProof.ListNew
import KE.KIntText
import HandS.SortRule
import PySem.Challenge.RW_plaindoors_k56_refused_texts
set_option Elab.async false
set_option linter.all false
set_option maxRecDepth 100000
namespace Pd
open PySem PySem.Spec PyProof.Rows L2
/-! powers of great ints, repeated texts -/
def CPowW (i j : Int) : Prop := 0 ≤ j ∧ (Builtin.Int.intBits i : Int) * j ≤ 2 ^ 27
section
variable {X : Cx}
theorem op_powW : OpR X (binaryOp .Pow) (rI CPowW fun i j => .int (i ^ j.toNat)) :=
  opI fun _ _ _ _ _ _ _ hc q => pow_int hc.1 hc.2 q
theorem op_mulS : OpR X (binaryOp .Mult) (fun x y H Q => ∃ a n, x = .str a ∧ y = .int n ∧ PySem.MulOk a n ∧ Q (.str (Txt.mul a n)) H) := by
  intro pins s σ H x y v u Q I rx ry h
  obtain ⟨a, n, rfl, rfl, ok, q⟩ := h
  obtain ⟨t, rfl⟩ := rx
  obtain ⟨t', rfl⟩ := ry
  exact PySem.SB.mul ok fun t2 k => ⟨.str _, H, I.tok k, ⟨t2, rfl⟩, q⟩
end
theorem bits_lt {i : Int} {a : Nat} (h : i.natAbs < 2 ^ a) (h0 : 0 < a) : Builtin.Int.intBits i ≤ a := by
  have x := PySem.Flt.log2_lt_of h0 h
  unfold Builtin.Int.intBits
  split <;> omega
theorem powW_ok {i j : Int} {a : Nat} (h : i.natAbs < 2 ^ a) (h0 : 0 < a) (hj : 0 ≤ j) (hj2 : j ≤ 16) (ha : a ≤ 100000) : CPowW i j := by
  refine ⟨hj, ?_⟩
  have e := bits_lt h h0
  have e2 : (Builtin.Int.intBits i : Int) ≤ 100000 := by omega
  have e3 : (0:Int) ≤ (Builtin.Int.intBits i : Int) := by omega
  have : (Builtin.Int.intBits i : Int) * j ≤ 100000 * 16 := Int.mul_le_mul e2 hj2 hj (by omega)
  omega
end Pd

namespace Pd
open PySem PySem.Spec PyProof.Rows L2
/-! ### a set made of a text whose signs are all plain and distinct -/
abbrev freshSet (led : Bool) : Obj := { cls := .type "set", dict := none, data := .set #[] 0 (.fresh 0 0 led) }
theorem sub_ss : isSubtype (.type "str") (.type "set") = pure false := by rw [isSubtype_type]; kernel_rfl
theorem sub_sf : isSubtype (.type "str") (.type "frozenset") = pure false := by rw [isSubtype_type]; kernel_rfl
theorem run_txok {P : Program} {w : World} : ∀ (cs : List Nat) (tk : Tok) (D : Froz.SD) (l : List Str), Froz.TxOk P w D l →
    ∃ m, m.length = cs.length + l.length ∧ Froz.TxOk P w (Froz.runD w cs tk D) m
  | [], _, _, l, F => ⟨l, (Nat.zero_add _).symm, F⟩
  | c :: r, tk, D, l, F => by
    obtain ⟨m, hm, G⟩ := run_txok r (tk + 2) _ _ (Froz.add_ok (k := Froz.sing c) tk F)
    exact ⟨m, by rw [hm, List.length_cons, List.length_cons]; omega, G⟩
section
variable {prog : Program} {w : World} {A : Around} {E : Value → Shared → Prop} {s : Shared}
/-- what such a set is, as far as its length goes -/
def TxtSet (h : Heap) (a : Addr) (n : Nat) : Prop :=
  ∃ D : Froz.SD, h.get? a = some (Froz.sObj "set" D) ∧ D.2.2.fits D.1.size = true ∧ D.1.size = n
set_option maxHeartbeats 6400000 in
theorem set_of_text {x : Str} {t : Tok} {Q : Value → Shared → Prop} (hh : A.handled = none) (ha : x.cps.all (· < 128) = true)
    (hd : x.cps.toList.Nodup) (hb : x.cps.toList.length < scanBound)
    (hq : ∀ (g : Heap) (tk : Nat), TxtSet g s.heap.objs.size x.cps.toList.length →
      (∀ b o, s.heap.get? b = some o → g.get? b = some o) → Q (.ref s.heap.objs.size) { s with heap := g, toks := tk }) :
    wpAny (model prog w) A (call (.type "set") [.str x t]) Q E s := by
  obtain ⟨c, tl, hmro⟩ := PySem.F.called_set.mro
  have made := PySem.F.called_set.made
  have subs := PySem.F.called_set.sub
  refine wpAny_call (codeAny_of_tree ?_)
  show wpAny _ _ (callAny (.type "set") _) _ _ _
  refine wpAny_pure ⟨Code.quiet_builtin _ (by decide +kernel), codeAny_builtin PySem.F.entry_type_call ?_⟩
  rw [Around.under_plain (weight_type_call_type "set" [.str x t] []) rfl]
  have nt := PySem.F.called_set.notType
  have cc := PySem.F.called_set.canCreate
  have tc := PySem.F.typeCall_set_1 (.str x t)
  repeat (any_goals (first | assumption | wp_step))
  refine codeAny_mono (code_set_new_1 (.str x t) (E := E) (Q₁ := fun ob s1 => ∃ led, ob = .ref s.heap.objs.size ∧ s1 = { s with heap := s.heap.push (freshSet led) }) fun led => ⟨led, rfl, rfl⟩) fun r s1 hr => ?_
  cases r with
  | error e => exact hr
  | ok fl =>
    cases fl with
    | next => exact hr.elim
    | brk => exact hr.elim
    | cont => exact hr.elim
    | ret ob =>
      obtain ⟨led, rfl, rfl⟩ := hr
      have gS : (s.heap.push (freshSet led)).get? s.heap.objs.size = some (freshSet led) := Heap.get?_push_size _ rfl
      have tS : Shared.TypeIs { s with heap := s.heap.push (freshSet led) } (.ref s.heap.objs.size) "set" := ⟨_, gS, rfl⟩
      have li := PySem.F.called_set.init.lookup
      have bi := PySem.F.called_set.init.bind (.ref s.heap.objs.size)
      repeat (any_goals (first | assumption | wp_step))
      refine codeAny_mono (codeAny_call_builtin (R := wants (fun r s2 => r = .none ∧ ∃ g tk, s2 = { s with heap := g, toks := tk } ∧
          TxtSet g s.heap.objs.size x.cps.toList.length ∧ (∀ b o, s.heap.get? b = some o → g.get? b = some o)) E)
          PySem.F.called_set.init.plain PySem.F.entry_set_init (check_set_init_1 tS ?_)) fun r2 s2 h2 => ?_
      · have s1 := sub_ss
        have s3 := sub_sf
        have tT : Shared.TypeIs { s with heap := s.heap.push (freshSet led) } (.str x t) "str" := typeIs_str _ _ _
        have ne : (Value.type "str" == Value.type "dict") = false := by decide
        unfold Builtin.«set.__init__» noKeywords Builtin.Frozenset.updateFrom
        generalize hPI : pyIter = PI
        wp_walk
        subst hPI
        refine wpAny_pyIter_ascii ha ?_
        refine wpAny_bind (wpAny_runValue ?_)
        have e1 : (s.heap.push (freshSet led)).objs.size = s.heap.objs.size + 1 := Heap.size_push _ _
        have hne : s.heap.objs.size ≠ (s.heap.push (freshSet led)).objs.size := by omega
        have g1 : ∀ o2, ((s.heap.push (freshSet led)).push o2).get? s.heap.objs.size = some (Froz.sObj "set" (#[], 0, .fresh 0 0 led)) := fun o2 => Heap.get?_push_of_some _ gS
        have g2 : ((s.heap.push (freshSet led)).push (Froz.itObj x t 0)).get? (s.heap.push (freshSet led)).objs.size = some (Froz.itObj x t 0) := Heap.get?_push_size _ rfl
        obtain ⟨m, hm, TX⟩ := run_txok (P := prog) (w := w) x.cps.toList s.toks _ _ (Froz.TxOk.nil (ep := 0) (t := .fresh 0 0 led) rfl)
        refine Froz.code_update (P := prog) (w := w) (l := []) (D := (#[], 0, .fresh 0 0 led)) hne (by exact hh) x.cps.toList 0 _ rfl (g1 _) g2 (Froz.TxOk.nil rfl) (fun _ _ => List.not_mem_nil) hd (by simpa using hb) ?_
        refine wpAny_pure (wpAny_pure ⟨rfl, _, _, rfl, ⟨Froz.runD w x.cps.toList s.toks (#[], 0, .fresh 0 0 led), ?_, TX.fit, ?_⟩, fun b o q => ?_⟩)
        · refine Heap.get?_push_of_some _ (Heap.get?_push_of_some _ ?_)
          unfold Froz.two
          exact PySem.Heap.get?_update_of_ne _ hne.symm (Froz.get_upd _ (g1 _) rfl)
        · rw [TX.sz, hm]; rfl
        · have hb1 : b < s.heap.objs.size := Heap.lt_size q
          have b2 : (s.heap.push (freshSet led)).objs.size ≠ b := by rw [e1]; exact Nat.ne_of_gt (Nat.lt_succ_of_lt hb1)
          have b3 : s.heap.objs.size ≠ b := Nat.ne_of_gt hb1
          refine Heap.get?_push_of_some _ (Heap.get?_push_of_some _ ?_)
          unfold Froz.two
          exact PySem.Heap.get?_update_of_ne _ b2 (PySem.Heap.get?_update_of_ne _ b3 (Heap.get?_push_of_some _ (Heap.get?_push_of_some _ q)))
      · cases r2 with
        | error e => exact h2
        | ok f2 =>
          cases f2 with
          | next => exact h2.elim
          | brk => exact h2.elim
          | cont => exact h2.elim
          | ret r =>
            obtain ⟨rfl, g, tk, rfl, hS, hk⟩ := h2
            repeat (any_goals (first | assumption | wp_step))
            exact hq _ _ hS hk
end
/-- len(set(e)), e a text of plain and distinct signs -/
def tLenSetS (ta : TE) : TE := fun σ H Q => ta σ H fun v H1 => ∃ x : Str, v = .str x ∧ x.cps.all (· < 128) = true ∧ x.cps.toList.Nodup ∧ x.cps.toList.length ≤ 1000 ∧ Q (.int (x.cps.toList.length : Nat)) H1
theorem pe_lenSetS {X : Cx} {a : Expr} {ta : TE} {p p2 q pos : Pos} (hc : X.calm = true) (hg : Gl X "len") (hm : X.mg "len" = none) (hg2 : Gl X "set") (hm2 : X.mg "set" = none) (ha : PE X a ta)
    (na : starEach [a] X.env = (false, eval a X.env) :: starEach [] X.env := by rfl) : PE X (.Call (.Name "len" p) [.Call (.Name "set" p2) [a] [] q] [] pos) (tLenSetS ta) := by
  constructor
  intro pins s σ H Q I h
  apply Call_ (ld_blt I hg hm boot_len _)
  refine PyProof.Rows.callWith_builtin1 (PyProof.Rows.args_cons (Call_ (ld_blt I hg2 hm2 boot_set ?_)) rfl) rfl rfl
  refine PyProof.Rows.callWith_type1 (PyProof.Rows.args_cons (thn (ha.run pins s σ H _ I h) ?_) na) na rfl
  rintro v s1 ⟨y, H1, I1, r1, x, rfl, hx, hn, hl, q1⟩
  obtain ⟨t, rfl⟩ := r1
  refine PyProof.Rows.args_nil (set_of_text (I1.ok.hd hc) hx hn (Nat.lt_of_le_of_lt hl (by unfold scanBound; omega)) fun g tk hS hk => PyProof.Rows.args_nil ?_)
  obtain ⟨D, h1, h2, h3⟩ := hS
  have I2 : Inv X pins σ H1 { s1 with heap := g, toks := tk } := I1.kept hk
  exact call_len_set h1 ⟨rfl, rfl, rfl⟩ rfl h2 (by omega) ⟨.int _, H1, I2.tok _, ⟨_, by rw [h3]⟩, q1⟩
end Pd

namespace Pd
open PySem PySem.Spec PyProof.Rows L2
/-! ### no reader has booked a token -/
theorem unbooked {X : Cx} {pins : List (Addr × Obj)} {σ : L2.St} {H : Hp} {s : Shared} (b : NoneBooked X.base) (I : Inv X pins σ H s) : NoneBooked s.heap :=
  let ⟨mc, h1, h2⟩ := b
  ⟨mc, h1.keeps I.bk, h2⟩
theorem tkE {α : Type} {M : Model} {A : Around} {t : Sem α} {Q : α → Shared → Prop} {E : Value → Shared → Prop} {s : Shared} {n : Nat} (hn : n ≤ s.toks) (h : wpAny M A t Q E s) :
    wpAny M A t (fun a s' => n ≤ s'.toks ∧ Q a s') E s := wpAny_mono (PySem.wpAny_toks_of hn h) (fun _ _ q => q) fun _ _ q => q.2
/-! ### texts whose token is new -/
def Frsh (n m : Nat) (u : Value) : Prop := ∃ x t, u = .str x t ∧ n ≤ t ∧ t < m
structure PEF (X : Cx) (e : Expr) (t : TE) : Prop where
  run : ∀ (pins : List (Addr × Obj)) (s : Shared) (σ : L2.St) (H : Hp) (Q : VK), Inv X pins σ H s → t σ H Q →
    wpAny (model X.prog X.w) X.A (eval e X.env) (fun u s' => EP X pins σ Q u s' ∧ s.toks ≤ s'.toks ∧ Frsh (s.toks + 1) s'.toks u) X.xe s
theorem PEF.pe {X : Cx} {e : Expr} {t : TE} (h : PEF X e t) : PE X e t := ⟨fun pins s σ H Q I q => thn (h.run pins s σ H Q I q) fun _ _ z => z.1⟩
/-- a written text at a reckoned place -/
def tItemC (z : Str) (tb : TE) : TE := fun σ H Q => tb σ H fun y H2 => ∃ (i : Int) (c : Nat), y = .int i ∧ 0 ≤ i ∧ i < z.length ∧ z.length ≤ 1000 ∧ z.cps[i.toNat]? = some c ∧ Q (.str ⟨#[c]⟩) H2
theorem pef_item {X : Cx} {z : Str} {j : Nat} {cp pos : Pos} {b : Expr} {tb : TE} (hb : PE X b tb) (hs : PlainIxT b) : PEF X (.Subscript (.Constant (.str z) j cp) b pos) (tItemC z tb) := by
  constructor
  intro pins s σ H Q I h
  refine Subscript_ (Calls.Constant_str ?_)
  have I1 : Inv X pins σ H { s with toks := s.toks + 1 } := I.tok _
  refine thn (tkE (n := s.toks + 1) (Nat.le_refl _) (hb.run pins _ σ H _ I1 h)) ?_
  rintro u s2 ⟨ht, y, H2, I2, ry, i, c, rfl, h0, h1, hz, hc, q⟩
  obtain ⟨t, rfl⟩ := ry
  have e : seqIndex? i z.length = some i.toNat := PySem.StrLaws.seqIndex_nonneg h0 h1
  refine tail_any (typeIs_str s2 z s.toks) slot_str_getitem.lookup (getItem_str (c := c) ?_ (by rw [e]; exact hc) ⟨⟨.str ⟨#[c]⟩, H2, I2.tok _, ⟨_, rfl⟩, q⟩, ?_, _, _, rfl, ht, ?_⟩) (hs _ _)
  · rw [decide_eq_false (by omega), decide_eq_false (by omega)]; rfl
  · show s.toks ≤ s2.toks + 1; omega
  · show s2.toks < s2.toks + 1; omega
/-- a name of the frame, its value raw -/
structure Holds (X : Cx) (s : Shared) (x : Str) (u : Value) : Prop where
  kd : X.env.kindOf x = some .local
  at_ : ∃ m, s.heap.Ns X.env.locals m ∧ m x = some u
theorem Holds.tok {X : Cx} {s : Shared} {x : Str} {u : Value} (h : Holds X s x u) (k : Nat) : Holds X { s with toks := k } x u := ⟨h.kd, h.at_⟩
theorem Holds.load {X : Cx} {pins : List (Addr × Obj)} {σ : L2.St} {H : Hp} {s : Shared} {x : Str} {u : Value} {pos : Pos} {Q E : Value → Shared → Prop} (h : Holds X s x u) (I : Inv X pins σ H s) (q : Q u s)
    (hd : (x == ("__debug__" : Str)) = false := by decide) : wpAny (model X.prog X.w) X.A (eval (.Name x pos) X.env) Q E s := by
  obtain ⟨m, hn, hm⟩ := h.at_
  exact wpAny_Name (wpAny_loadName_local I.ok.kind h.kd hn hm q) hd
/-- a local name is stored, and its value is known -/
theorem store_raw {X : Cx} {pins : List (Addr × Obj)} {σ : L2.St} {H : Hp} {s : Shared} {M : Model} {A : Around} {E : Value → Shared → Prop} {i : Nat} {x : Str} {v : V} {u : Value} {Q : Unit → Shared → Prop}
    (I : Inv X pins σ H s) (hN : X.N.Nodup) (hi : X.N[i]? = some x) (hx : X.env.scope.names.lookup x = some .local) (r : RelV v u)
    (h : ∀ s', Inv X pins (σ.set i (some v)) H s' → Holds X s' x u → (∀ y w, y ≠ x → Holds X s y w → Holds X s' y w) → s.toks ≤ s'.toks → Q () s') : wpAny M A (storeName X.env x u) Q E s := by
  obtain ⟨m, hn, hl⟩ := id I.loc
  have hcls : (X.env.scope.kind == .class || (X.env.scope.kind == .module && X.env.locals != X.env.globals)) = false := by rw [I.ok.kind]; rfl
  have hk : X.env.kindOf x = some .local := hx
  obtain ⟨oL, _, _, hoL, _⟩ := id hn
  have hiσ : i < σ.length := by rw [I.len]; exact (List.getElem?_eq_some_iff.mp hi).1
  refine wpAny_storeName_local hk hn (fun g hg sb => ?_) hcls
  have oldL : ∀ {b o}, X.s_0.heap.get? b = some o → b ≠ X.env.locals := fun e => Nat.ne_of_lt (Nat.lt_of_lt_of_le (Heap.lt_size e) I.ok.above)
  have hok : HOk X.prog X.w H g := fun b ob e => by
    refine (I.hok b ob e).stay (fun c w' hc q => (sb.2 c ?_).trans q) (fun _ q => q) fun _ _ q => q
    rintro rfl
    rcases hc with rfl | hc
    · rw [I.free] at e; cases e
    · rw [I.free] at hc; cases hc
  have I' : Inv X pins (σ.set i (some v)) H { s with heap := g, toks := s.toks + 1 } := by
    refine ⟨I.ok, I.os, I.bare, ⟨?_, ?_, I.base.free, ?_, I.base.tups, I.base.frzs, I.base.tbls⟩, ⟨_, hg, ?_⟩, ?_, I.free, I.freeC, ?_, hok, by simpa using I.len⟩
    · intro b o e n hb hx'
      exact (sb.2 b (oldL e)).trans (I.base.keep b o e n hb hx')
    · intro b o e n hb hx'
      obtain ⟨sl, e1⟩ := I.base.slot b o e n hb hx'
      exact ⟨sl, (sb.2 b (oldL e)).trans e1⟩
    · intro b o e hx'
      obtain ⟨o', e1⟩ := I.base.there b o e hx'
      exact ⟨o', (sb.2 b (oldL e)).trans e1⟩
    · intro j y v' e1 e2 e3
      by_cases hj : j = i
      · subst hj
        rw [hi] at e1; cases e1
        rw [List.getElem?_set_self hiσ] at e2
        cases e2
        exact ⟨u, r, .inl ⟨hk, by simp⟩⟩
      · rw [List.getElem?_set_ne (Ne.symm hj)] at e2
        obtain ⟨u', r', q⟩ := hl j y v' e1 e2 e3
        refine ⟨u', r', ?_⟩
        rcases q with ⟨k, e⟩ | ⟨k, c, e, z⟩
        · refine .inl ⟨k, ?_⟩
          have nyx : y ≠ x := fun e' => hj (nodup_ix hN e1 (e' ▸ hi))
          simp [nyx, e]
        · exact .inr ⟨k, c, e, z.sameBut sb (I.cne y c e)⟩
    · intro y c e
      obtain ⟨w', z⟩ := I.cell y c e
      exact ⟨w', z.sameBut sb (I.cne y c e)⟩
    · intro p hp
      obtain ⟨e, n, ne, nf, d⟩ := I.pin p hp
      exact ⟨(sb.2 p.1 ne).trans e, n, ne, nf, d⟩
  refine h _ I' ⟨hk, _, hg, by simp⟩ (fun y w ny hy => ?_) (Nat.le_succ _)
  obtain ⟨m', hn', hm'⟩ := hy.at_
  obtain ⟨od, es, ep, h1, h2, h3, h4⟩ := id hn
  obtain ⟨od', es', ep', h1', h2', h3', h4'⟩ := id hn'
  rw [h1] at h1'; cases h1'
  rw [h2] at h2'; cases h2'
  refine ⟨hy.kd, _, hg, ?_⟩
  have : m y = some w := by rw [← hm', ← h4 y, ← h4' y]
  simp [ny, this]
/-! ### lists of texts of unlike tokens -/
/-- the texts cs, their tokens all in n .. m and unlike -/
inductive TkL : Nat → Nat → List Str → List Value → Prop where
  | nil {n m : Nat} (h : n ≤ m) : TkL n m [] []
  | cons {n k m : Nat} {c : Str} {t : Nat} {cs : List Str} {us : List Value} (h1 : n ≤ t) (h2 : t < k) (r : TkL k m cs us) : TkL n m (c :: cs) (.str c t :: us)
theorem TkL.le : ∀ {n m : Nat} {cs : List Str} {us : List Value}, TkL n m cs us → n ≤ m
  | _, _, _, _, .nil h => h
  | _, _, _, _, .cons h1 h2 r => Nat.le_trans (Nat.le_of_lt (Nat.lt_of_le_of_lt h1 h2)) r.le
theorem TkL.low {n n' m : Nat} {cs : List Str} {us : List Value} (h : TkL n m cs us) (l : n' ≤ n) : TkL n' m cs us := by
  cases h with
  | nil h => exact .nil (Nat.le_trans l h)
  | cons h1 h2 r => exact .cons (Nat.le_trans l h1) h2 r
theorem TkL.app : ∀ {n m p : Nat} {cs ds : List Str} {us vs : List Value}, TkL n m cs us → TkL m p ds vs → TkL n p (cs ++ ds) (us ++ vs)
  | _, _, _, _, _, _, _, .nil h, r => r.low h
  | _, _, _, _, _, _, _, .cons h1 h2 q, r => .cons h1 h2 (q.app r)
theorem TkL.vals : ∀ {n m : Nat} {cs : List Str} {us : List Value}, TkL n m cs us → Vals (cs.map V.str) us
  | _, _, _, _, .nil _ => .nil
  | _, _, _, _, .cons _ _ r => .cons ⟨_, rfl⟩ r.vals
/-- what stands at a place -/
theorem TkL.get : ∀ {n m : Nat} {cs : List Str} {us : List Value} {i : Nat} {c : Str}, TkL n m cs us → cs[i]? = some c → ∃ t, us[i]? = some (.str c t) ∧ n ≤ t ∧ t < m
  | _, _, _, _, _, _, .nil _, e => by simp at e
  | _, _, _, _, 0, _, .cons h1 h2 r, e => by
    simp at e; subst e
    exact ⟨_, by simp, h1, Nat.lt_of_lt_of_le h2 r.le⟩
  | _, _, _, _, i + 1, _, .cons h1 h2 r, e => by
    obtain ⟨t, e1, e2, e3⟩ := r.get (i := i) (by simpa using e)
    exact ⟨t, by simpa using e1, Nat.le_trans (Nat.le_of_lt (Nat.lt_of_le_of_lt h1 h2)) e2, e3⟩
theorem TkL.get_ge : ∀ {n m : Nat} {cs : List Str} {us : List Value} {i : Nat} {c : Str} {t : Nat}, TkL n m cs us → us[i]? = some (.str c t) → n ≤ t
  | _, _, _, _, _, _, _, .nil _, e => by simp at e
  | _, _, _, _, 0, _, _, .cons h1 h2 r, e => by
    simp at e
    obtain ⟨_, rfl⟩ := e
    exact h1
  | _, _, _, _, i + 1, _, _, .cons h1 h2 r, e => Nat.le_trans (Nat.le_of_lt (Nat.lt_of_le_of_lt h1 h2)) (TkL.get_ge r (i := i) (by simpa using e))
theorem TkL.inj : ∀ {n m : Nat} {cs : List Str} {us : List Value} {i j : Nat} {c d : Str} {t : Nat}, TkL n m cs us → us[i]? = some (.str c t) → us[j]? = some (.str d t) → c = d
  | _, _, _, _, _, _, _, _, _, .nil _, e, _ => by simp at e
  | _, _, _, _, 0, 0, _, _, _, .cons _ _ _, e, f => by
    simp at e f
    exact e.1.symm.trans f.1
  | _, _, _, _, 0, j + 1, _, _, _, .cons (k := k) h1 h2 r, e, f => by
    simp at e f
    obtain ⟨_, rfl⟩ := e
    exact absurd (Nat.lt_of_lt_of_le h2 (r.get_ge f)) (Nat.lt_irrefl _)
  | _, _, _, _, i + 1, 0, _, _, _, .cons h1 h2 r, e, f => by
    simp at e f
    obtain ⟨_, rfl⟩ := f
    exact absurd (Nat.lt_of_lt_of_le h2 (r.get_ge e)) (Nat.lt_irrefl _)
  | _, _, _, _, i + 1, j + 1, _, _, _, .cons h1 h2 r, e, f => r.inj (by simpa using e) (by simpa using f)
/-- a list of texts whose tokens are known to be unlike, and none the first -/
def TxtsAt (H : Hp) (a : Addr) (cs : List Str) : Prop :=
  ∃ (its : List Value) (n m k : Nat), H a = some (.frz { cls := .type "list", data := .seq its.toArray n } (.lst (cs.map V.str))) ∧ TkL m k cs its ∧ 1 ≤ m
theorem TxtsAt.seq {K : PySem.W.Frag} {H : Hp} {a : Addr} {cs : List Str} (h : TxtsAt H a cs) : SqL K H a (cs.map V.str) := by
  obtain ⟨its, n, m, k, e, _⟩ := h
  exact .inl (.inr ⟨_, e⟩)
theorem TxtsAt.same {H H' : Hp} {a : Addr} {cs : List Str} (h : TxtsAt H a cs) (e : H' a = H a) : TxtsAt H' a cs := by
  obtain ⟨its, n, m, k, e1, r⟩ := h
  exact ⟨its, n, m, k, e.trans e1, r⟩
/-! ### a step that swaps: its two texts' tokens are good for replace -/
def SwapAt (H : Hp) (p : Addr) (a b : Str) : Prop :=
  ∃ (n : Nat) (t0 t u : Tok), H p = some (.frz { cls := .type "tuple", data := .seq #[.str "swap" t0, .str a t, .str b u] n } (.tup [.str "swap", .str a, .str b])) ∧ t ≠ 0 ∧ u ≠ 0 ∧ (t = u → a = b)
theorem SwapAt.seq {K : PySem.W.Frag} {H : Hp} {p : Addr} {a b : Str} (h : SwapAt H p a b) : SqT K H p [.str "swap", .str a, .str b] := by
  obtain ⟨n, t0, t, u, e, _⟩ := h
  exact .inl (.inr ⟨_, e⟩)
theorem SwapAt.same {H H' : Hp} {p : Addr} {a b : Str} (h : SwapAt H p a b) (e : ∀ o u, H p = some (.frz o u) → H' p = some (.frz o u)) : SwapAt H' p a b := by
  obtain ⟨n, t0, t, u, e1, r⟩ := h
  exact ⟨n, t0, t, u, e _ _ e1, r⟩
/-- replace, whatever the tokens are -/
theorem replace_all {prog : Program} {w : World} {A : Around} {E : Value → Shared → Prop} {s : Shared} {x y z : Str} {t u v : Tok} {Q : Value → Shared → Prop} (hnb : NoneBooked s.heap) (hu : u ≠ 0) (hv : v ≠ 0) (huv : u = v → y = z)
    (hb : x.length + (x.length + 1) * z.length ≤ 16777216) (hq : ∀ t' k, Q (.str (Txt.replace x y z) t') { s with toks := k }) :
    wpAny (model prog w) A (call (.builtin "str.replace") [.str x t, .str y u, .str z v]) Q E s := by
  by_cases e : u = v
  · obtain rfl := huv e
    subst e
    have same : isSame (.str y u) (.str y u) = pure true := by
      show (if (u == 0 || u == 0) = true then _ else if (u == u) = true then pure true else _ : Sem Bool) = _
      rw [beq_eq_false_iff_ne.mpr hu, beq_self_eq_true u]
      rfl
    have g : Gives (Builtin.«str.replace» ⟨[.str x t, .str y u, .str y u], []⟩) (.val (.str x t)) := by
      show Gives (if ((Builtin.Str.occurrences x y 0 x.length (x.length + 1)).isEmpty || (y.length == 0 && y.length == 0)) = true then (do rule "str.replace.nothing"; ret (.str x t)) else
          (do let same ← isSame (.str y u) (.str y u)
              if same = true then (do rule "str.replace.old-is-new"; ret (.str x t)) else
              if Builtin.Str.tooLong (x.length + (Builtin.Str.occurrences x y 0 x.length (x.length + 1)).length * y.length) = true then unsupported "str.replace:memory" else
              retStr (Builtin.Str.glued y (Builtin.Str.partsBetween x (Builtin.Str.occurrences x y 0 x.length (x.length + 1)) y.length)))) _
      rw [same]
      cases ((Builtin.Str.occurrences x y 0 x.length (x.length + 1)).isEmpty || (y.length == 0 && y.length == 0))
      · exact .rule (.of_eq rfl)
      · exact .rule (.of_eq rfl)
    refine call_gives PySem.F.slot_str_replace (typeIs_str _ _ _) PySem.F.entry_str_replace (PySem.F.args_str_replace_3 _ _ _) g ?_
    have q := hq t s.toks
    rw [Txt.replace_self] at q
    exact q
  · exact PySem.SC.replaceA hu hv e hb hq hnb
end Pd

namespace Pd
open PySem PySem.Spec PyProof.Rows L2
/-! ### enumerate of a tuple -/
set_option maxHeartbeats 1000000 in
theorem meets_enum1 {v : Value} {o : Obj} {B : Heap → Prop} (b : Begins v o B) :
    Meets (Builtin.«enumerate.__new__» ⟨[.type "enumerate", v], []⟩) (fun _ R s => B s.heap ∧
      R (.ok (.ret (.ref (s.heap.push o).objs.size))) { s with heap := (s.heap.push o).push { cls := .type "enumerate", data := .fields #[.none, .bool false, .ref s.heap.objs.size, rawInt 0, .none, .none] } }) :=
  .of_wp fun prog w A R s h => by
    obtain ⟨hp, g, d, tk, os⟩ := s
    obtain ⟨h1, h2⟩ := h
    have hsub := sub_enumerate
    have it1 : ∀ {A' : Around} {E : Value → Shared → Prop} {Q : Value → Shared → Prop}, Q (.ref hp.objs.size) ⟨hp.push o, g, d, tk, os⟩ → wpAny (model prog w) A' (pyIter v) Q E ⟨hp, g, d, tk, os⟩ :=
      fun q => b.iter prog w _ _ ⟨hp, g, d, tk, os⟩ _ h1 q
    wp_walk using it1
    refine wpAny_stack_any fun st => wpAny_pure ?_
    split
    · rename_i c _ _ _ _ _
      cases (c == Value.type "enumerate")
      · wp_walk using it1
        exact ⟨_, rfl, h2⟩
      · wp_walk using it1
        exact ⟨_, rfl, h2⟩
    · wp_walk using it1
      exact ⟨_, rfl, h2⟩
theorem call_enum1 {prog : Program} {w : World} {A : Around} {E : Value → Shared → Prop} {s : Shared} {v : Value} {o : Obj} {B : Heap → Prop} {Q : Value → Shared → Prop} (b : Begins v o B) (h1 : B s.heap)
    (h : ∀ g, IsEnum g (s.heap.objs.size + 1) s.heap.objs.size 0 .none → g.get? s.heap.objs.size = some o →
      (∀ b o, s.heap.get? b = some o → g.get? b = some o) → Q (.ref (s.heap.objs.size + 1)) { s with heap := g }) :
    wpAny (model prog w) A (call (.type "enumerate") [v]) Q E s := by
  refine callType_new F.called_enumerate (by decide) (F.typeCall_enumerate_1 _) (F.newCall_enumerate_1 _) (fun obj => F.args_object_init_2 obj _) F.entry_enumerate_new (meets_enum1 b) ⟨h1, ?_⟩
  have z : (s.heap.push o).objs.size = s.heap.objs.size + 1 := Heap.size_push ..
  show _ ∧ _
  rw [z]
  have he := Heap.get?_push_size (s.heap.push o) (o := { cls := .type "enumerate", data := .fields #[.none, .bool false, .ref s.heap.objs.size, rawInt 0, .none, .none] }) rfl
  rw [z] at he
  exact ⟨⟨_, he, rfl⟩, h _ he (Heap.get?_push_of_some _ (Heap.get?_push_size _ b.free)) fun b o x => Heap.get?_push_of_some _ (Heap.get?_push_of_some _ x)⟩
def ItE (K : PySem.W.Frag) (a : Addr) : It :=
  ⟨fun i H => ∃ (xs : List V) (x : V), SqT K H a xs ∧ xs[i]? = some x, fun i H v H' => ∃ T x, v = .ref T ∧ H T = none ∧ H' = upd H T (.tup [.int (i : Nat), x]) ∧ ∀ xs, SqT K H a xs → xs[i]? = some x, fun i H => ∃ xs : List V, SqT K H a xs ∧ xs.length = i⟩
theorem turn_enumT {P : Program} {w : World} {K : PySem.W.Frag} {elts : List Expr} {kk : Nat} {tpos : Pos} (a e it : Addr) :
    Turn P w K (.Tuple elts kk tpos) (ItE K a) [e, it] e (fun i h => (∃ old, IsEnum h e it ((i : Nat) : Int) old) ∧ h.IsTupleIter it a i ∧ e ≠ it ∧ a ≠ it ∧ e ≠ a) where
  mem := by simp
  obj := fun i h st b hb => by
    obtain ⟨⟨old, he⟩, ⟨o, ho, hc, hd⟩, _⟩ := st
    have z : b = e ∨ b = it := by simpa using hb
    rcases z with rfl | rfl
    · exact ⟨_, he, fun v q => nomatch q⟩
    · exact ⟨o, ho, fun v q => by rw [hd] at q; cases q⟩
  keep := fun i h h' st k => let ⟨⟨old, he⟩, hi, hne⟩ := st; ⟨⟨old, k e (by simp) _ he⟩, hi.at fun o q => k it (by simp) o q, hne⟩
  item := by
    intro X hP hw hK hc i pins s σ H E I hf st hg
    subst hP hw hK
    obtain ⟨⟨old, he⟩, hit, hne, hai, hea⟩ := st
    obtain ⟨xs, x, hq, hx⟩ := hg
    obtain ⟨its, rv, p, hz⟩ := I.tuple hq
    obtain ⟨u, hu, ru⟩ := rv.get hx
    have hel : e < s.heap.objs.size := Heap.lt_size he
    have hil : it < s.heap.objs.size := by obtain ⟨_, q, _⟩ := hit; exact Heap.lt_size q
    have lt : i < its.toArray.size := by
      have := (List.getElem?_eq_some_iff.mp hu).1
      simpa using this
    refine wpAny_pyNext_enum_itemD (Draws.tuple (prog := X.prog) (w := X.w) (A := X.A.in1) (by exact I.ok.hd hc) it a hai its.toArray) he ⟨hit, p⟩ lt hne (by simp [hne, hea]) fun y g tk hy ho st' hT hsz hk => ?_
    have ey : y = u := by
      have : its[i]? = some y := by simpa using hy
      rw [hu] at this
      exact (Option.some.inj this).symm
    subst ey
    refine ⟨_, rfl, wpAny_letOwnedTupleGo_enum (s := { s with heap := g, toks := tk + 1 }) ho fun g2 he' sb => ?_⟩
    have hT2 : g2.get? s.heap.objs.size = some { cls := .type "tuple", data := .seq #[.int i tk, y] } := (sb.2 _ (Nat.ne_of_gt hel)).trans hT
    have new : ObjOk X.prog X.w (upd H s.heap.objs.size (.tup [.int (i : Nat), x])) g2 s.heap.objs.size (.tup [.int (i : Nat), x]) :=
      ⟨by show 2 ≤ sizeLine; decide, [.int i tk, y], .cons ⟨_, rfl⟩ (.cons ru .nil), ⟨_, hT2, rfl, _, rfl⟩⟩
    have I1 : Inv X pins σ (upd H s.heap.objs.size (.tup [.int (i : Nat), x])) { s with heap := g2, toks := tk + 1 } :=
      I.turnedNew (ch := [e, it]) (fun b ob hb q => (sb.2 b (fun z => hb (by simp [z]))).trans (hk b ob (fun z => hb (by simp [z])) (fun z => hb (by simp [z])) q)) hf (Nat.le_refl _) new
    refine ⟨.ref s.heap.objs.size, _, I1, rfl, ⟨_, x, rfl, I.hok.fresh (Nat.le_refl _), rfl, fun ys hy => by rw [I.tuple_inj hy hq]; exact hx⟩, ⟨⟨y, ?_⟩, st'.1.at fun o q => (sb.2 it (Ne.symm hne)).trans q, hne, hai, hea⟩, fun b hb => ?_⟩
    · have e1 : ((i + 1 : Nat) : Int) = (i : Int) + 1 := by omega
      rw [e1]; exact he'
    · have hb' : b < s.heap.objs.size := by
        have z : b = e ∨ b = it := by simpa using hb
        rcases z with rfl | rfl
        · exact hel
        · exact hil
      rw [upd_ne (Nat.ne_of_lt hb')]
      exact (hf b hb).1
  done := by
    intro X hP hw hK hc i pins s σ H E I hf st hg
    subst hP hw hK
    obtain ⟨⟨old, he⟩, hit, hne, hai, hea⟩ := st
    obtain ⟨xs, hq, hx⟩ := hg
    obtain ⟨its, rv, p, hz⟩ := I.tuple hq
    obtain ⟨f0, f1, f2, f3, f4, f5⟩ := hf it (by simp)
    have hl : its.toArray.size = i := by rw [List.size_toArray, ← rv.length, hx]
    refine wpAny_pyNext_enum_endD (i := ((i : Nat) : Int)) (Draws.tuple (prog := X.prog) (w := X.w) (A := X.A.in1) (by exact I.ok.hd hc) it a hai its.toArray) he (by rw [hl]; exact ⟨hit, p⟩) fun g eb => ⟨rfl, I.turned (t' := s.toks) (fun b o hb q => eb b o hb q) f0 f1 f3 f4 f5⟩
  self := fun A i s Q E st h => let ⟨⟨_, he⟩, _⟩ := st; wpAny_pyIter_enum he h
def iEnumT (K : PySem.W.Frag) (ta : TA) : TI := fun σ H R => ta σ H fun vs H1 => ∃ a xs, vs = [.ref a] ∧ SqT K H1 a xs ∧ R (ItE K a) H1
theorem pi_enumT {X : Cx} {e : Expr} {ta : TA} {p pos tpos : Pos} {elts : List Expr} {kk : Nat} (hg : Gl X "enumerate") (hm : X.mg "enumerate" = none) (ha : PA X [e] ta) (hs : starEach [e] X.env = [(false, eval e X.env)] := by rfl) :
    PI X (.Tuple elts kk tpos) (.Call (.Name "enumerate" p) [e] [] pos) (iEnumT X.K ta) := by
  constructor
  intro pins s σ H R I h
  refine Call_ (ld_blt I hg hm boot_enumerate (PyProof.Rows.callWith_type1 (thn (ha.run pos pins s σ H _ I h) ?_) hs rfl))
  rintro us s1 ⟨vs, H1, I1, r1, a, xs, rfl, hq, q⟩
  obtain ⟨u, rfl, r⟩ := vals1 r1
  cases r
  obtain ⟨its, rv, p', hz⟩ := I1.tuple hq
  refine call_enum1 (begins_tuple a its.toArray) p' fun g he hit hk => wpAny_pyIter_enum he ?_
  have I2 : Inv X pins σ H1 { s1 with heap := g } := I1.kept (t' := s1.toks) hk
  have al : a < s1.heap.objs.size := p'.lt
  have st : (∃ old, IsEnum g (s1.heap.objs.size + 1) s1.heap.objs.size ((0 : Nat) : Int) old) ∧ g.IsTupleIter s1.heap.objs.size a 0 ∧ (s1.heap.objs.size + 1) ≠ s1.heap.objs.size ∧ a ≠ s1.heap.objs.size ∧ (s1.heap.objs.size + 1) ≠ a :=
    ⟨⟨.none, he⟩, ⟨_, hit, rfl, rfl⟩, Nat.succ_ne_self _, Nat.ne_of_lt al, Nat.ne_of_gt (Nat.lt_succ_of_lt al)⟩
  refine ⟨s1.heap.objs.size + 1, [s1.heap.objs.size + 1, s1.heap.objs.size], _, _, H1, rfl, I2, turn_enumT a (s1.heap.objs.size + 1) s1.heap.objs.size, st, fun b hb => ?_, q⟩
  have z : b = s1.heap.objs.size + 1 ∨ b = s1.heap.objs.size := by simpa using hb
  have hle : s1.heap.objs.size ≤ b := by
    rcases z with rfl | rfl
    · exact Nat.le_add_right _ _
    · exact Nat.le_refl _
  exact I1.fpOk hle (I1.hok.fresh hle)
/-- a for over it: at each turn a new pair -/
theorem walk_enumT {K : PySem.W.Frag} {a : Addr} {xs : List V} : Walk (ItE K a) xs.length (fun H => SqT K H a xs) (YPair (fun i => some (.int (i : Nat))) (fun i => xs[i]?)) := by
  refine ⟨fun i _ hi q => ⟨xs, xs[i], q, by simp [hi]⟩, fun _ q => ⟨xs, q, rfl⟩, fun i H v H' _ q y => ?_⟩
  obtain ⟨T, x, h1, h2, h3, h4⟩ := y
  exact ⟨T, .int (i : Nat), x, h1, h2, h3, rfl, h4 xs q⟩
/-! ### text.replace(step[1], step[2]), step a swap -/
def tRepl (to : TE) (i : Nat) : TE := fun σ H Q => to σ H fun v H1 => ∃ x p a b, v = .str x ∧ σ[i]? = some (some (.ref p)) ∧ SwapAt H1 p a b ∧ x.length + (x.length + 1) * b.length ≤ 16777216 ∧ Q (.str (Txt.replace x a b)) H1
/-- a local name that holds an object -/
theorem name_ref {X : Cx} {pins : List (Addr × Obj)} {σ : L2.St} {H : Hp} {s : Shared} {i : Nat} {x : Str} {p : Addr} {pos : Pos} {Q E : Value → Shared → Prop} (hN : X.N[i]? = some x) (hv : X.env.scope.names.lookup x = some .local) (I : Inv X pins σ H s)
    (hσ : σ[i]? = some (some (.ref p))) (q : Q (.ref p) s) (hd : (x == ("__debug__" : Str)) = false := by decide) : wpAny (model X.prog X.w) X.A (eval (.Name x pos) X.env) Q E s := by
  obtain ⟨m, hn, hl⟩ := I.loc
  obtain ⟨u, r, l⟩ := hl i x _ hN hσ (.inl hv)
  obtain rfl : u = Value.ref p := r
  rcases l with ⟨hk, hm⟩ | ⟨hk, _⟩
  · exact wpAny_Name (wpAny_loadName_local I.ok.kind hk hn hm q) hd
  · have hv' : X.env.kindOf x = some .local := hv
    rw [hv'] at hk
    rcases hk with hk | hk <;> cases hk
/-- an item at a written place of a tuple whose object is known -/
theorem item_raw {X : Cx} {pins : List (Addr × Obj)} {σ : L2.St} {H : Hp} {s : Shared} {i : Nat} {x : Str} {p : Addr} {its : Array Value} {k : Int} {j : Nat} {w : Value} {p1 cp pos : Pos} {Q E : Value → Shared → Prop} (hN : X.N[i]? = some x)
    (hv : X.env.scope.names.lookup x = some .local) (I : Inv X pins σ H s) (hσ : σ[i]? = some (some (.ref p))) (ht : s.heap.IsTuple p its) (h0 : 0 ≤ k) (h1 : k < its.size) (hz : its.size ≤ 1000) (hw : its[k.toNat]? = some w) (fin : ∀ tk, Q w { s with toks := tk })
    (hs : PlainIx (.Constant (.int k) j cp)) (hd : (x == ("__debug__" : Str)) = false := by decide) :
    wpAny (model X.prog X.w) X.A (eval (.Subscript (.Name x p1) (.Constant (.int k) j cp) pos) X.env) Q E s := by
  refine Subscript_ (name_ref hN hv I hσ (wpAny_Constant_int ?_) hd)
  exact subscriptTail_builtinR (x := w) ht.typeIs slot_tuple_getitem.lookup
    (getItem_tuple (j := k.toNat) (Q := fun r s' => r = w ∧ Q r s') ht (by omega) (by omega) (by rw [seqIndex_of h0 h1]) hw ⟨rfl, fin _⟩) (hs _ _)
theorem pe_replT {X : Cx} {i : Nat} {kx : Str} {o : Expr} {to : TE} {j0 j1 : Nat} {p2 p3 c0 c1 q0 q1 apos pos : Pos} (nb : NoneBooked X.base) (ho : PE X o to) (hN : X.N[i]? = some kx) (hv : X.env.scope.names.lookup kx = some .local) (hd : (kx == ("__debug__" : Str)) = false := by decide)
    (hst : starEach [.Subscript (.Name kx p2) (.Constant (.int 1) j0 c0) q0, .Subscript (.Name kx p3) (.Constant (.int 2) j1 c1) q1] X.env =
      [(false, eval (.Subscript (.Name kx p2) (.Constant (.int 1) j0 c0) q0) X.env), (false, eval (.Subscript (.Name kx p3) (.Constant (.int 2) j1 c1) q1) X.env)] := by rfl)
    (hbase : attributeBase o "replace" X.env (eval o X.env) = eval o X.env := by rfl) (hline : (apos.endLine == pos.line) = true := by rfl) :
    PE X (.Call (.Attribute o "replace" apos) [.Subscript (.Name kx p2) (.Constant (.int 1) j0 c0) q0, .Subscript (.Name kx p3) (.Constant (.int 2) j1 c1) q1] [] pos) (tRepl to i) := by
  constructor
  intro pins s σ H Q I h
  refine PySem.Call_method2 hbase hst hline (thn (ho.run pins s σ H _ I h) ?_)
  rintro v s1 ⟨y, H1, I1, r1, x, p, a, b, rfl, hσ, ⟨n, t0, t, u, hp, ht, hu, htu⟩, hz, q⟩
  obtain ⟨tx, rfl⟩ := r1
  obtain ⟨hob, _⟩ := I1.hok p _ hp
  have tup : ∀ k, ({ s1 with toks := k } : Shared).heap.IsTuple p #[.str "swap" t0, .str a t, .str b u] := fun k => ⟨_, hob, rfl, n, rfl⟩
  refine ⟨"str", _, F.plainAttrs_str, F.slot_str_replace, F.type_str_replace, typeIs_str _ _ _, (fun _ e => nomatch e), Calls.callWith_builtin rfl (Calls.evalArgs_plain (Calls.spliced_cons ?_))⟩
  refine item_raw hN hv I1 hσ (tup s1.toks) (by decide) (by show (1:Int) < ((3:Nat):Int); decide) (by show 3 ≤ 1000; decide) rfl (fun k1 => ?_) (fun _ _ => rfl) hd
  refine Calls.spliced_cons (item_raw hN hv (I1.tok k1) hσ (tup k1) (by decide) (by show (2:Int) < ((3:Nat):Int); decide) (by show 3 ≤ 1000; decide) rfl (fun k2 => Calls.spliced_nil ?_) (fun _ _ => rfl) hd)
  exact replace_all (s := { s1 with toks := k2 }) (unbooked nb (I1.tok k2)) ht hu htu hz fun t' k => ⟨.str (Txt.replace x a b), H1, I1.tok k, ⟨t', rfl⟩, q⟩
end Pd

namespace Pd
open PySem PySem.Spec PyProof.Rows L2
/-! ### way, sign = .., signs[..]; the returns by way; the one of a swap by known tokens -/
section
variable {X : Cx} {pins : List (Addr × Obj)} {σ : L2.St} {H : Hp} {s : Shared}
theorem test_int {i : Nat} {x : Str} {n k : Int} {j : Nat} {p1 cp pos : Pos} {whole : Sem Value} {Q : Bool → Shared → Prop} {E : Value → Shared → Prop} (hN : X.N[i]? = some x) (hv : X.env.scope.names.lookup x = some .local) (I : Inv X pins σ H s)
    (hσ : σ[i]? = some (some (.int n))) (q : Q (n == k) { s with toks := s.toks + 1 }) (hd : (x == ("__debug__" : Str)) = false := by decide) :
    wpAny (model X.prog X.w) X.A (isTrue (.Compare (.Name x p1) [.Eq] [.Constant (.int k) j cp] pos) X.env whole) Q E s := by
  obtain ⟨m, hn, hl⟩ := I.loc
  obtain ⟨u, r, l⟩ := hl i x _ hN hσ (.inl hv)
  obtain ⟨t, rfl⟩ := r
  rcases l with ⟨hk, hm⟩ | ⟨hk, _⟩
  · exact wpAny_isTrue_Compare1 (wpAny_Name (wpAny_loadName_local I.ok.kind hk hn hm (wpAny_Constant_int (eq_int (wpAny_truthy_bool q)))) hd)
  · have hv' : X.env.kindOf x = some .local := hv
    rw [hv'] at hk
    rcases hk with hk | hk <;> cases hk
/-- an item of a list of texts, its token known -/
theorem pick_raw {ig : Nat} {gx : Str} {a : Addr} {cs : List Str} {its : List Value} {n m k : Nat} {idx : Expr} {ti : TE} {p1 pos : Pos} {R : Value → Shared → Prop} (hN : X.N[ig]? = some gx) (hv : X.env.scope.names.lookup gx = some .local) (I : Inv X pins σ H s)
    (hσ : σ[ig]? = some (some (.ref a))) (hi : PE X idx ti) (hs : PlainIx idx) (tk : TkL m k cs its) (hz : cs.length ≤ 1000)
    {C : V → Hp → Prop} (h : ti σ H C) (hC : ∀ y H2, C y H2 → ∃ (i : Int) (c : Str), y = .int i ∧ H2 a = some (.frz { cls := .type "list", data := .seq its.toArray n } (.lst (cs.map V.str))) ∧ 0 ≤ i ∧ cs[i.toNat]? = some c ∧
      ∀ s2 t, Inv X pins σ H2 s2 → its[i.toNat]? = some (.str c t) → m ≤ t → s.toks ≤ s2.toks → R (.str c t) s2) (hd : (gx == ("__debug__" : Str)) = false := by decide) :
    wpAny (model X.prog X.w) X.A (eval (.Subscript (.Name gx p1) idx pos) X.env) R X.xe s := by
  refine Subscript_ (name_ref hN hv I hσ (thn (tkE (Nat.le_refl s.toks) (hi.run pins s σ H _ I h)) ?_) hd)
  rintro u s2 ⟨ht, y, H2, I2, ry, hy⟩
  obtain ⟨i, c, rfl, hf, h0, hc, q⟩ := hC y H2 hy
  obtain ⟨t, rfl⟩ := ry
  obtain ⟨hob, _⟩ := I2.hok a _ hf
  obtain ⟨t2, e, l1, l2⟩ := tk.get hc
  have lst : s2.heap.IsList a its.toArray := ⟨_, hob, rfl, n, rfl⟩
  have hb : i.toNat < cs.length := (List.getElem?_eq_some_iff.mp hc).1
  exact item_listR lst h0 (by omega) (by simpa using e) (q s2 t2 I2 e l1 ht) (hs _ _)
end
def tSwap (iw is ig : Nat) (t1 ti ti2 : TE) (t0 tr : TS) : TS := fun D σ H => t1 σ H fun x H1 => ∃ (n : Int) (a : Addr) (cs : List Str), x = .int n ∧ σ[ig]? = some (some (.ref a)) ∧ cs.length ≤ 1000 ∧ TxtsAt H1 a cs ∧
  ti σ H1 fun y H2 => ∃ (i : Int) (c : Str), y = .int i ∧ H2 a = H1 a ∧ 0 ≤ i ∧ cs[i.toNat]? = some c ∧
  (n = 0 → t0 { D with nx := fun _ _ => False } ((σ.set iw (some (.int n))).set is (some (.str c))) H2) ∧
  (n = 1 → ti2 ((σ.set iw (some (.int n))).set is (some (.str c))) H2 fun y2 H3 => ∃ (j : Int) (d : Str), y2 = .int j ∧ H3 a = H2 a ∧ 0 ≤ j ∧ cs[j.toNat]? = some d ∧
    ∀ p H4, H3 p = none → SwapAt H4 p c d → (∀ b, b ≠ p → H4 b = H3 b) → D.rt (.ref p) H4) ∧
  (n ≠ 0 → n ≠ 1 → tr D ((σ.set iw (some (.int n))).set is (some (.str c))) H2)
set_option maxHeartbeats 1000000 in
theorem pss_swap {X : Cx} {iw is ig : Nat} {wx sx gx : Str} {e1 idx idx2 : Expr} {t1 ti ti2 : TE} {t0 tr : TS} {r0 rest : List Stmt} {k0 k1 k2 : Nat} {j0 j1 j2 : Nat}
    {a1 a2 a3 a4 a5 a6 a7 b1 b2 b3 b4 c1 c2 c3 c4 c5 c6 c7 c8 c9 c10 : Pos} (hc : X.calm = true) (hN : X.N.Nodup)
    (hw : X.N[iw]? = some wx) (hs : X.N[is]? = some sx) (hg : X.N[ig]? = some gx) (n1 : iw ≠ is) (n2 : ig ≠ iw) (n3 : ig ≠ is)
    (lw : X.env.scope.names.lookup wx = some .local) (ls : X.env.scope.names.lookup sx = some .local) (lg : X.env.scope.names.lookup gx = some .local)
    (h1 : PE X e1 t1) (hi : PE X idx ti) (hi2 : PE X idx2 ti2) (p1 : PlainIx idx) (p2 : PlainIx idx2) (h0 : PSs X r0 t0) (hr : PSs X rest tr)
    (dw : (wx == ("__debug__" : Str)) = false) (ds : (sx == ("__debug__" : Str)) = false) (dg : (gx == ("__debug__" : Str)) = false)
    (hst : starEach [e1, .Subscript (.Name gx a1) idx a2] X.env = [(false, eval e1 X.env), (false, eval (.Subscript (.Name gx a1) idx a2) X.env)])
    (hst2 : starEach [.Constant (.str "swap") j2 c5, .Name sx c6, .Subscript (.Name gx c7) idx2 c8] X.env = [(false, eval (.Constant (.str "swap") j2 c5) X.env), (false, eval (.Name sx c6) X.env), (false, eval (.Subscript (.Name gx c7) idx2 c8) X.env)])
    (hsw : swappedStores [.Tuple [.Name wx a3, .Name sx a4] k0 a5] (.Tuple [e1, .Subscript (.Name gx a1) idx a2] k1 a6) X.env = pure (some [wx, sx]))
    (hss : swapsWithSole [.Tuple [.Name wx a3, .Name sx a4] k0 a5] (.Tuple [e1, .Subscript (.Name gx a1) idx a2] k1 a6) a7.line X.env = pure false) :
    PSs X (.Assign [.Tuple [.Name wx a3, .Name sx a4] k0 a5] (.Tuple [e1, .Subscript (.Name gx a1) idx a2] k1 a6) a7
      :: .If (.Compare (.Name wx b1) [.Eq] [.Constant (.int 0) j0 b2] b3) r0 [] b4
      :: .If (.Compare (.Name wx c1) [.Eq] [.Constant (.int 1) j1 c2] c3) [.Return (some (.Tuple [.Constant (.str "swap") j2 c5, .Name sx c6, .Subscript (.Name gx c7) idx2 c8] k2 c9)) c4] [] c10
      :: rest) (tSwap iw is ig t1 ti ti2 t0 tr) := by
  constructor
  intro pins s σ H D I h
  refine wpAny_execs_cons ?_
  rw [exec_Assign_arm]
  refine wpAny_bind (wpAny_standAt ?_)
  rw [hss]
  refine wpAny_bind (wpAny_pure ?_)
  rw [if_neg (by decide)]
  refine wpAny_bind (Tuple_ ?_)
  rw [hst]
  show wpAny _ _ (spliced ((false, eval e1 X.env) :: [(false, eval (.Subscript (.Name gx a1) idx a2) X.env)])) _ _ s
  refine Calls.spliced_cons (thn (h1.run pins s σ H _ I h) ?_)
  rintro u1 s1 ⟨x, H1, I1, r1, n, a, cs, rfl, hσ, hz, ⟨its, nn, m, k, hf, tk, hm⟩, h2⟩
  refine Calls.spliced_cons (pick_raw (n := nn) hg lg I1 hσ hi p1 tk hz h2 ?_ dg)
  rintro y H2 ⟨i, c, rfl, ha, h0', hcs, w0, w1, w2⟩
  refine ⟨i, c, rfl, ha.trans hf, h0', hcs, fun s2 t I2 e2 hmt hst' => Calls.spliced_nil ?_⟩
  obtain ⟨tn, rfl⟩ := r1
  refine wpAny_newObj_type ?_ (by show 2 ≤ sizeLine; decide)
  have I3 : Inv X pins σ H2 { s2 with heap := s2.heap.push { cls := .type "tuple", data := .seq [Value.int n tn, .str c t].toArray } } := I2.kept (t' := s2.toks) fun b o e => Heap.get?_push_of_some _ e
  rw [hsw]
  refine wpAny_bind (wpAny_pure ?_)
  show wpAny (model X.prog X.w) X.A (do rule "assign.swapped-stores"; let items ← unpackItems (.ref s2.heap.objs.size) 2 none; assignInOrder [fun v => bindName X.env sx v, fun v => bindName X.env wx v] items.reverse; pure Flow.next) _ _ _
  refine wpAny_bind (wpAny_rule (wpAny_bind (unpackItems_tuple (items := #[Value.int n tn, .str c t]) (I.ok.hd hc) (IsTup.new s2.heap _) fun g hx' => ?_)))
  have I4 := I3.kept (h' := g) (t' := s2.toks) fun b o e => hx' b o (Nat.ne_of_lt (Heap.lt_size e)) e
  show wpAny _ _ (assignInOrder [fun v => bindName X.env sx v, fun v => bindName X.env wx v] [Value.str c t, .int n tn] >>= fun _ => pure Flow.next) _ _ _
  refine wpAny_bind (assignInOrder_cons (wpAny_bindName (store_raw (v := V.str c) I4 hN hs ls ⟨t, rfl⟩ fun s3 I5 K5 _ _ => ?_)))
  refine assignInOrder_cons (wpAny_bindName (store_raw (v := V.int n) I5 hN hw lw ⟨tn, rfl⟩ fun s4 I6 _ keep6 _ => assignInOrder_nil (wpAny_pure ?_)))
  have K6 : Holds X s4 sx (.str c t) := keep6 sx _ (fun e => n1 (nodup_ix hN hw (e ▸ hs))) K5
  rw [List.set_comm _ _ (Ne.symm n1)] at I6
  have hl : σ.length = X.N.length := I.len
  have lw1 : iw < σ.length := by rw [hl]; exact (List.getElem?_eq_some_iff.mp hw).1
  have sw : ((σ.set iw (some (V.int n))).set is (some (.str c)))[iw]? = some (some (.int n)) := by
    rw [List.getElem?_set_ne (Ne.symm n1), List.getElem?_set_self lw1]
  have sg : ((σ.set iw (some (V.int n))).set is (some (.str c)))[ig]? = some (some (.ref a)) := by
    rw [List.getElem?_set_ne (Ne.symm n3), List.getElem?_set_ne (Ne.symm n2)]; exact hσ
  generalize hS : (σ.set iw (some (V.int n))).set is (some (.str c)) = σ' at *
  -- if way == 0
  refine wpAny_execs_cons (wpAny_If (test_int hw lw I6 sw ?_ dw))
  by_cases e0 : n = 0
  · have e : (n == 0) = true := by simp [e0]
    rw [e]
    refine thn (h0.run pins _ σ' H2 _ (I6.tok _) (w0 e0)) fun f s5 q => ?_
    cases f with
    | next => obtain ⟨_, _, _, z⟩ := q; exact z.elim
    | ret v => exact q
    | brk => exact q
    | cont => exact q
  · have e : (n == 0) = false := by simp [e0]
    rw [e]
    refine wpAny_execs_nil ?_
    -- if way == 1
    refine wpAny_execs_cons (wpAny_If (test_int hw lw (I6.tok _) sw ?_ dw))
    by_cases e1 : n = 1
    · have e : (n == 1) = true := by simp [e1]
      rw [e]
      refine wpAny_execs_cons (wpAny_Return_some (Tuple_ ?_))
      rw [hst2]
      show wpAny _ _ (spliced ((false, eval (.Constant (.str "swap") j2 c5) X.env) :: (false, eval (.Name sx c6) X.env) :: [(false, eval (.Subscript (.Name gx c7) idx2 c8) X.env)])) _ _ _
      refine Calls.spliced_cons (Calls.Constant_str (Calls.spliced_cons ?_))
      refine ((K6.tok _).tok _).load (((I6.tok _).tok _).tok _) (Calls.spliced_cons ?_) ds
      refine pick_raw (n := nn) hg lg (((I6.tok _).tok _).tok _) sg hi2 p2 tk hz (w1 e1) ?_ dg
      rintro y2 H3 ⟨j, d, rfl, ha3, hj, hd, fin⟩
      refine ⟨j, d, rfl, ha3.trans (ha.trans hf), hj, hd, fun s5 t2 I7 e7 hmt2 _ => Calls.spliced_nil ?_⟩
      refine wpAny_newTuple ?_ (by show 3 ≤ sizeLine; decide)
      have new : H3 s5.heap.objs.size = none := I7.hok.fresh (Nat.le_refl _)
      refine ⟨.ref s5.heap.objs.size, σ', upd H3 s5.heap.objs.size (.frz { cls := .type "tuple", data := .seq #[.str "swap" s4.toks.succ.succ, .str c t, .str d t2] 0 } (.tup [.str "swap", .str c, .str d])), ?_, rfl, fin _ _ new ⟨0, _, t, t2, upd_same, Nat.ne_of_gt (Nat.lt_of_lt_of_le hm hmt), Nat.ne_of_gt (Nat.lt_of_lt_of_le hm hmt2), fun z => ?_⟩ fun b hb => upd_ne hb⟩
      · refine I7.laid (t' := s5.toks) (fun b o q => Heap.get?_push_of_some _ q) (Nat.le_refl _) ⟨Heap.get?_push_size _ rfl, by show 3 ≤ sizeLine; decide, [.str "swap" _, .str c t, .str d t2], .cons ⟨_, rfl⟩ (.cons ⟨_, rfl⟩ (.cons ⟨_, rfl⟩ .nil)), ⟨_, Heap.get?_push_size _ rfl, rfl, _, rfl⟩⟩
      · subst z
        exact tk.inj e2 e7
    · have e : (n == 1) = false := by simp [e1]
      rw [e]
      exact wpAny_execs_nil (hr.run pins _ σ' H2 D ((I6.tok _).tok _) (w2 e0 e1))
end Pd

namespace Pd
open PySem PySem.Spec PyProof.Rows L2
/-! ### a comprehension over a range whose items are new texts: the list stays untracked, its tokens are known -/
theorem TkL.snoc : ∀ {n m p t : Nat} {c : Str} {cs : List Str} {us : List Value}, TkL n m cs us → m ≤ t → t < p → TkL n p (cs ++ [c]) (us ++ [.str c t])
  | _, _, _, _, _, _, _, r, h1, h2 => r.app (.cons h1 h2 (.nil (Nat.le_refl _)))
theorem TkL.up : ∀ {n m m' : Nat} {cs : List Str} {us : List Value}, TkL n m cs us → m ≤ m' → TkL n m' cs us
  | _, _, _, _, _, .nil h, l => .nil (Nat.le_trans h l)
  | _, _, _, _, _, .cons h1 h2 r, l => .cons h1 h2 (r.up l)
set_option maxHeartbeats 2000000 in
theorem lcT {X : Cx} {pins : List (Addr × Obj)} {s : Shared} {σ : L2.St} {H : Hp} {elt iter : Expr} {kx : Str} {ik : Nat} {px pos : Pos} {scope : Scope} {own : List (Str × Nat)} {ta : TA} {te : TE} {R : Value → Shared → Prop}
    (hc : X.calm = true) (hN : X.N.Nodup) (I : Inv X pins σ H s) (hi : PI X (.Name kx px) iter (iRng1 ta)) (ok : BlkOk X.N X.env.scope scope own) (hik : ik ∈ own.map (·.2))
    (hg : ∀ (s : Shared) (H : Hp) (C : Addr) (cl : List (Str × Addr)) (fp : List Addr), PG (X.blk s H scope (compEnvC scope cl C X.env) fp) (.Name kx px) (gName ik))
    (he : ∀ (s : Shared) (H : Hp) (C : Addr) (cl : List (Str × Addr)) (fp : List Addr), PEF (X.blk s H scope (compEnvC scope cl C X.env) fp) elt te)
    (hs : ∀ x, foldedSetIterable iter X.env x = pure x) {R0 : It → Hp → Prop} (h : iRng1 ta σ H R0)
    (hR : ∀ J H1, R0 J H1 → ∃ (n : Nat) (P : Nat → Hp → Prop) (G : Str → Prop), J = Itr 0 n ∧ n ≤ 1000 ∧ P 0 H1 ∧
      (∀ i H2, i < n → P i H2 → te ((wipe σ (own.map (·.2))).set ik (some (.int (0 + i)))) H2 fun y H3 => ∃ c, y = .str c ∧ G c ∧ P (i + 1) H3) ∧
      ∀ D cs its nn s' H', Inv X pins σ H' s' → P n H' → cs.length = n → (∀ c ∈ cs, G c) → TkL (s.toks + 1) (s'.toks + 1) cs its → s.toks ≤ s'.toks →
        s'.heap.get? D = some { cls := .type "list", data := .seq its.toArray nn } → H' D = none → R (.ref D) s') :
    wpAny (model X.prog X.w) X.A (eval (.ListComp elt [⟨.Name kx px, iter, [], 0⟩] scope pos) X.env) R X.xe s := by
  rw [eval_ListComp]
  have hfree : ∀ y ∈ scope.names, y.2 = .free → ∃ c, X.env.cells.lookup y.1 = some c := fun y hy e => by
    rcases ok.free y hy e with k | k
    · exact I.ok.has _ (.inl k)
    · exact I.ok.has _ (.inr k)
  refine wpAny_comprehension_free (use := none) rfl hs (closure_ok hfree) ok.kind (fun y hy e => by rw [ok.uniq y hy, e]) (thn (tkE (Nat.le_refl s.toks) (hi.run pins s σ H R0 I h)) ?_)
  rintro xv s1 ⟨l1, hx⟩
  refine thn (tkE l1 hx) ?_
  rintro itv s2 ⟨l2, it, fp, tn, J, H2, rfl, I2, T, st2, f2, q⟩
  obtain ⟨n, P, G, rfl, hn, p0, turn, fin⟩ := hR _ _ q
  refine wpAny_newObj_type (newEnv_comp ?_) (by show 0 ≤ sizeLine; decide)
  generalize hD : s2.heap.objs.size = D
  have dn : H2 D = none := I2.hok.fresh (Nat.le_of_eq hD)
  generalize hs3 : ({ s2 with heap := s2.heap.push { cls := .type "list", data := .seq ([] : List Value).toArray } } : Shared) = s3
  have I3 : Inv X pins σ H2 s3 := by
    rw [← hs3]
    exact I2.kept (t' := s2.toks) fun b o e => Heap.get?_push_of_some _ e
  have t3 : s3.toks = s2.toks := by rw [← hs3]
  have h3 : s3.heap = s2.heap.push { cls := .type "list", data := .seq ([] : List Value).toArray } := by rw [← hs3]
  have gD : s3.heap.get? D = some { cls := .type "list", data := .seq ([] : List Value).toArray } := by
    rw [h3, ← hD]
    exact Heap.get?_push_size _ rfl
  have sz : ∀ b ∈ fp, b < s2.heap.objs.size := fun b hb => by
    obtain ⟨o, e, _⟩ := T.obj _ _ st2 b hb
    exact Heap.lt_size e
  have nDf : D ∉ fp := fun z => Nat.lt_irrefl _ (by have := sz D z; rw [hD] at this; exact this)
  have f3 : ∀ b ∈ D :: fp, FpOk X pins H2 b ∧ b < s3.heap.objs.size := fun b hb => by
    rcases List.mem_cons.mp hb with rfl | hb
    · exact ⟨I2.fpOk (Nat.le_of_eq hD) dn, Heap.lt_size gD⟩
    · exact ⟨f2 b hb, by rw [h3, Heap.size_push]; exact Nat.lt_succ_of_lt (sz b hb)⟩
  have st3 : tn 0 s3.heap := T.keep _ _ _ st2 fun b _ o e => by rw [h3]; exact Heap.get?_push_of_some _ e
  have I4 := block_start I3 ok hN f3
  have pg := hg s3 H2 s3.heap.objs.size (cellsFrom (s3.heap.objs.size + 1) scope.names (cloFrom X.env.cells scope.names [])) (D :: fp)
  have pe := he s3 H2 s3.heap.objs.size (cellsFrom (s3.heap.objs.size + 1) scope.names (cloFrom X.env.cells scope.names [])) (D :: fp)
  show codeAny _ _ (.compStart (.ListComp elt [⟨.Name kx px, iter, [], 0⟩] scope pos) 0 (.ref it) (.ref D) (compEnvC scope (cellsFrom (s3.heap.objs.size + 1) scope.names (cloFrom X.env.cells scope.names [])) s3.heap.objs.size X.env)) (compPost (model X.prog X.w) X.A X.xe none R (.ref D) s3.heap.objs.size) { s3 with heap := pushCells (s3.heap.push { cls := .type "dict", data := .dict #[] }) scope.names }
  generalize hce : compEnvC scope (cellsFrom (s3.heap.objs.size + 1) scope.names (cloFrom X.env.cells scope.names [])) s3.heap.objs.size X.env = ce at I4 pg pe ⊢
  have cL : ce.locals = s3.heap.objs.size := by subst hce; rfl
  have up3 : ∀ b o, s3.heap.get? b = some o → (pushCells (s3.heap.push { cls := .type "dict", data := .dict #[] }) scope.names).get? b = some o := fun b o e => pushCells_keeps _ _ _ _ (Heap.get?_push_of_some _ e)
  generalize hs4 : ({ s3 with heap := pushCells (s3.heap.push { cls := .type "dict", data := .dict #[] }) scope.names } : Shared) = s4 at I4 ⊢
  have t4 : s4.toks = s2.toks := by rw [← hs4]; exact t3
  have st4 : tn 0 s4.heap := T.keep _ _ _ st3 fun b _ o e => by rw [← hs4]; exact up3 b o e
  have gD4 : s4.heap.get? D = some { cls := .type "list", data := .seq ([] : List Value).toArray } := by rw [← hs4]; exact up3 _ _ gD
  have stat : ∀ {σ' : L2.St} {H' : Hp} {s' : Shared}, Inv (X.blk s3 H2 scope ce (D :: fp)) [] σ' H' s' → (∀ b ∈ D :: fp, H' b = none) → ∀ b ∈ D :: fp, FpOk (X.blk s3 H2 scope ce (D :: fp)) [] H' b := fun {σ' H' s'} I' hn b hb =>
    ⟨hn b hb, (I'.ok.exf b hb).1, I'.ok.exfs b hb, .inl hb, fun x c e => (I'.ok.exf b hb).2 x c e, fun p hp => absurd (show p ∈ ([] : List (Addr × Obj)) ++ [] from hp) (by simp)⟩
  have loop : codeAny (model X.prog X.w) X.A (.compLoop (.ListComp elt [⟨.Name kx px, iter, [], 0⟩] scope pos) 0 (.ref it) (.ref D) ce) (compPost (model X.prog X.w) X.A X.xe none R (.ref D) s3.heap.objs.size) s4 := by
    refine compLoop_any (fun m s' => ∃ i H' cs its nn, m = n - i ∧ i ≤ n ∧ Inv (X.blk s3 H2 scope ce (D :: fp)) [] (wipe σ (own.map (·.2))) H' s' ∧ tn i s'.heap ∧ (∀ b ∈ D :: fp, H' b = none) ∧ P i H' ∧ cs.length = i ∧ (∀ c ∈ cs, G c) ∧
      TkL (s.toks + 1) (s'.toks + 1) cs its ∧ s.toks ≤ s'.toks ∧ s'.heap.get? D = some { cls := .type "list", data := .seq its.toArray nn }) ?_ n
      ⟨0, H2, [], [], 0, (Nat.sub_zero _).symm, Nat.zero_le _, I4, st4, fun b hb => (f3 b hb).1.1, p0, rfl, (fun _ z => nomatch z), .nil (by omega), by omega, gD4⟩
    rintro m s5 ⟨i, H5, cs, its, nn, rfl, hi', I5, st5, n5, pi, hcs, hG, tk, ts, g5⟩
    have I5' : Inv (X.blk s3 H2 scope ce (D :: fp)) ([] ++ pinsAt [D] s5.heap) (wipe σ (own.map (·.2))) H5 s5 :=
      I5.pinned (fp := [D]) (fun b hb => stat I5 n5 b (by rw [List.mem_singleton.mp hb]; exact List.mem_cons_self)) fun b hb => by
        rw [List.mem_singleton.mp hb]
        exact ⟨_, g5, fun v z => nomatch z⟩
    have pinD : ∀ {pl : List (Addr × Obj)} {σ' : L2.St} {H' : Hp} {s' : Shared}, Inv (X.blk s3 H2 scope ce (D :: fp)) (([] ++ pinsAt [D] s5.heap) ++ pl) σ' H' s' → s'.heap.get? D = some { cls := .type "list", data := .seq its.toArray nn } ∧ H' D = none := fun J =>
      let z := J.pin (D, _) (List.mem_append_right _ (List.mem_append_left _ (List.mem_append_right _ (mem_pinsAt (List.mem_singleton.mpr rfl) g5))))
      ⟨z.1, z.2.1⟩
    have stat5 : ∀ {σ' : L2.St} {H' : Hp} {s' : Shared}, Inv (X.blk s3 H2 scope ce (D :: fp)) ([] ++ pinsAt [D] s5.heap) σ' H' s' → (∀ b ∈ fp, H' b = none) → ∀ b ∈ fp, FpOk (X.blk s3 H2 scope ce (D :: fp)) ([] ++ pinsAt [D] s5.heap) H' b := fun {σ' H' s'} I' hn' b hb => by
      have hb' : b ∈ D :: fp := List.mem_cons_of_mem _ hb
      refine ⟨hn' b hb, (I'.ok.exf b hb').1, I'.ok.exfs b hb', .inl hb', fun x c e => (I'.ok.exf b hb').2 x c e, fun p hp => ?_⟩
      have hp' : p ∈ pinsAt [D] s5.heap := by simpa using hp
      have e := (of_pinsAt hp').1
      rw [List.mem_singleton.mp e]
      exact fun z => nDf (z ▸ hb)
    by_cases hlt : i < n
    · have ti := T.item (X.blk s3 H2 scope ce (D :: fp)) rfl rfl rfl hc i _ s5 _ H5 (fun _ _ => False) I5' (stat5 I5' fun b hb => n5 b (List.mem_cons_of_mem _ hb)) st5 hlt
      refine thnF (tkE (Nat.le_refl s5.toks) ti) ?_
      rintro r s6 ⟨l6, u, rfl, h6⟩
      refine thnF (tkE l6 h6) ?_
      rintro _ s7 ⟨l7, x, H7, I7, r7, ⟨rfl, rfl⟩, st7, n7⟩
      have I7' := I7.pinned (stat5 I7 n7) (T.obj _ _ st7)
      refine thnF (tkE l7 (pg.run _ s7 _ H7 (V.int (0 + i)) u (fun σ' H' => σ' = (wipe σ (own.map (·.2))).set ik (some (.int (0 + i))) ∧ H' = H7) I7' r7 ⟨rfl, rfl⟩)) ?_
      rintro _ s8 ⟨l8, σ8, H8, I8, rfl, rfl⟩
      refine wpAny_tests_nil ?_
      simp only [if_true]
      refine thnF (pe.run _ s8 _ _ _ I8 (turn i _ hlt pi)) ?_
      rintro z s10 ⟨⟨yv, H10, I10, r10, c, rfl, gc, p10⟩, l10, xz, tz, rfl, lz1, lz2⟩
      have ec : xz = c := by
        obtain ⟨tq, eq⟩ := r10
        injection eq
      subst ec
      obtain ⟨gD10, dn10⟩ := pinD I10
      have its10 : its.toArray.size ≤ sizeLine := by
        have e := tk.vals.length
        rw [List.length_map] at e
        rw [List.size_toArray, sizeLine_eq]; omega
      refine append_at (hsz := its10) gD10 fun g sb hg' => ?_
      have keepfp : ∀ b ∈ fp, ∀ o, s7.heap.get? b = some o → s10.heap.get? b = some o ∧ H10 b = none := fun b hb o e =>
        let z := I10.pin (b, o) (List.mem_append_right _ (List.mem_append_right _ (mem_pinsAt hb e)))
        ⟨z.1, z.2.1⟩
      have hl : (wipe σ (own.map (·.2))).length = ((wipe σ (own.map (·.2))).set ik (some (V.int (0 + i)))).length := by simp
      have J10 : Inv (X.blk s3 H2 scope ce (D :: fp)) [] (wipe σ (own.map (·.2))) H10 s10 := by
        refine (((I10.unpinned).unpinned) : Inv (X.blk s3 H2 scope ce (D :: fp)) [] _ H10 s10).weak hl fun j v e => ?_
        obtain ⟨e1, e2⟩ := wipe_some e
        have nji : ik ≠ j := fun z => e2 (z ▸ hik)
        rw [List.getElem?_set_ne nji]
        exact e
      have fD := stat J10 (fun b hb => by
        rcases List.mem_cons.mp hb with rfl | hb
        · exact dn10
        · obtain ⟨o, e, _⟩ := T.obj _ _ st7 b hb
          exact (keepfp b hb o e).2) D List.mem_cons_self
      obtain ⟨f0, f1, f2', f3', f4, f5⟩ := fD
      have J11 : Inv (X.blk s3 H2 scope ce (D :: fp)) [] (wipe σ (own.map (·.2))) H10 { s10 with heap := g } := J10.turned (t' := s10.toks) (fun b o hb e => (sb.2 b hb).trans e) f0 f1 f3' f4 f5
      refine ⟨n - (i + 1), by omega, i + 1, H10, cs ++ [xz], its ++ [.str xz tz], nn + 1, rfl, hlt, J11, ?_, ?_, p10, ?_, ?_, ?_, ?_, ?_⟩
      · refine T.keep _ _ _ st7 fun b hb o e => ?_
        exact (sb.2 b (fun z => nDf (z ▸ hb))).trans (keepfp b hb o e).1
      · intro b hb
        rcases List.mem_cons.mp hb with rfl | hb
        · exact dn10
        · obtain ⟨o, e, _⟩ := T.obj _ _ st7 b hb
          exact (keepfp b hb o e).2
      · rw [List.length_append, hcs]; rfl
      · intro c' hc'
        rcases List.mem_append.mp hc' with h' | h'
        · exact hG c' h'
        · rw [List.mem_singleton.mp h']; exact gc
      · exact (tk.up (Nat.succ_le_succ l8)).snoc lz1 (Nat.lt_succ_of_lt lz2)
      · exact Nat.le_trans ts (Nat.le_trans l8 l10)
      · rw [hg']
        simp
    · have ein : i = n := by omega
      subst ein
      have td := T.done (X.blk s3 H2 scope ce (D :: fp)) rfl rfl rfl hc i _ s5 _ H5 (fun _ _ => False) I5' (stat5 I5' fun b hb => n5 b (List.mem_cons_of_mem _ hb)) st5 (Nat.le_refl _)
      refine thnF (tkE (Nat.le_refl s5.toks) td) ?_
      rintro r s6 ⟨l6, rfl, I6⟩
      obtain ⟨gD6, dn6⟩ := pinD (pl := []) (by simpa using I6)
      have I7 : Inv X pins σ H5 s6 := I3.call' (ch := D :: fp) I6.os I6.base I6.hok I6.bare fun b hb => ⟨(f3 b hb).1.2.2.2.1, (f3 b hb).1.2.1, (f3 b hb).1.2.2.2.2.1, (f3 b hb).1.2.2.2.2.2⟩
      have nC : H5 s3.heap.objs.size = none := by
        have z : H5 ce.locals = none := I6.free
        rw [cL] at z
        exact z
      obtain ⟨mm, hn', _⟩ := I6.loc
      have hn' : s6.heap.Ns ce.locals mm := hn'
      rw [cL] at hn'
      obtain ⟨f0, f1, f2', f3', f4, f5⟩ := I3.fpOk (H' := H5) (Nat.le_refl _) nC
      refine ⟨mm, hn', fun g sb => ?_⟩
      have neDC : D ≠ s3.heap.objs.size := Nat.ne_of_lt (Heap.lt_size gD)
      exact fin D cs its nn _ H5 (I7.turned (t' := s6.toks) (fun b o hb e => (sb.2 b hb).trans e) f0 f1 f3' f4 f5) pi hcs hG (tk.up (Nat.succ_le_succ l6)) (Nat.le_trans ts l6) ((sb.2 D neDC).trans gD6) dn6
  exact codeAny_compStart_list loop (T.self X.A 0 _ _ _ st4 loop)
end Pd

namespace Pd
open PySem PySem.Spec PyProof.Rows L2
/-! ### a def that gives a new text -/
def FnT (P : Program) (w : World) (K : PySem.W.Frag) (mg : Str → Option Value) (base : Heap) (CX : CXT) (k : Nat) (f : Addr) (sp : Sp) : Prop :=
  ∀ (A : Around) (outer : List Env) (s : Shared) (H : Hp) (us : List Value) (vs : List V) (Q : VK) (E : XK), Room k A → Env0 P w K mg base A outer s H → Vals vs us → sp vs H Q E →
    codeAny (model P w) A (.call (.ref f) ⟨us, []⟩) (fun r s' => CR CX outer P w H s Q E r s' ∧ ∀ u, r = .ok (.ret u) → s.toks ≤ s'.toks ∧ Frsh (s.toks + 1) s'.toks u) s
theorem FnT.fnR {P : Program} {w : World} {K : PySem.W.Frag} {mg : Str → Option Value} {base : Heap} {CX : CXT} {k : Nat} {f : Addr} {sp : Sp} (F : FnT P w K mg base CX k f sp) : FnR P w K mg base CX k f sp :=
  fun A outer s H us vs Q E hr e0 r h => codeAny_mono (F A outer s H us vs Q E hr e0 r h) fun _ _ z => z.1
theorem fnT_ret {P : Program} {w : World} {K : PySem.W.Frag} {mg : Str → Option Value} {base : Heap} {x qual : Str} {st : Stmt} {f : Addr} {fd : FuncData} {N ps : List Str} {k : Nat} {sp : Sp} {e : Expr} {rpos : Pos}
    (F : Fun K x qual st f fd) (S : FnScope N ps (defScope st)) (hst : defBody st = [.Return (some e) rpos])
    (hb : ∀ (kV doc pm : Value) (an : Option Addr) (cdv ct : Value) (us : List Value), us.length = ps.length → bindArgs (PySem.W.fnOf x qual (defArgs st) (defBody st) (defScope st) .none kV doc pm an cdv ct) ⟨us, []⟩ = pure (ps.zip us))
    (len : ∀ vs H Q E, sp vs H Q E → vs.length = ps.length)
    (hbody : ∀ (cdv : Value) (A : Around) (outer : List Env) (s : Shared) (H : Hp) (vs : List V) (Q : VK) (E : XK), Room k (A.deeper (envOfC qual (defScope st) s.heap.objs.size f cdv)) → sp vs H Q E →
      ∃ t, PEF (cxOf CX0 P w K mg base N qual (defScope st) f cdv A outer s H E) e t ∧ t (start N vs) H Q) : FnT P w K mg base CX0 (k + 1) f sp := by
  obtain ⟨oc, od, kV, doc, pm, an, cdv, ct, osl, rfl, lk, hcd⟩ := F.ex
  intro A outer s H us vs Q E hr e0 r hsp
  have hl : us.length = ps.length := r.length.symm.trans (len _ _ _ _ hsp)
  have KX : K.In s.heap := e0.mod.kin.keeps fun b o e => (e0.bs b o e).1
  have lim : s.heap.NoLimit := e0.mod.nolimit.keeps fun b o e => (e0.bs b o e).1
  have hkind : ∀ y ∈ ps.zip us, (defScope st).names.lookup y.1 = some .local ∨ ((defScope st).names.lookup y.1 = some .cell ∧ ((cellsFrom (s.heap.objs.size + 1) (defScope st).names []).lookup y.1).isSome = true) := fun y hy => by
    rcases S.par y.1 (List.of_mem_zip hy).1 with q | q
    · exact .inl q
    · exact .inr ⟨q, PySem.W.cellsFrom_some _ _ _ (.inl q)⟩
  refine codeAny_call_function hr.depth (KX _ _ lk) rfl S.co S.gen rfl (PySem.W.codeRec_of KX hcd) (BindsTo.of_eq (hb kV doc pm an cdv ct us hl) _ _ _ _ ?_)
  refine wpAny_mono (tkE (Nat.le_refl s.toks) (wpAny_newFunctionEnv_cells S.kind hkind fun env he s1 x => (⟨he, x⟩ : env = _ ∧ InCallC s _ _ _ _ s1))) ?_ fun _ _ z => z
  rintro env s1 ⟨ht, rfl, x⟩
  refine ⟨lim.keeps x.toInCall.keep, codeAny_func ?_⟩
  obtain ⟨t, he, hq⟩ := hbody cdv A outer s H vs Q E (hr.deeper _) hsp
  have I : Inv (cxOf CX0 P w K mg base N qual (defScope st) f cdv A outer s H E) [] (start N vs) H s1 := inv_start S hr.hd e0 (len _ _ _ _ hsp) r x
  rw [hst]
  refine wpAny_execs_cons (wpAny_Return_some (wpAny_mono (he.run [] s1 _ H Q I hq) ?_ fun e s' z => ?_))
  · rintro u s' ⟨⟨v, H', J, rv, q⟩, l1, xz, tz, rfl, l2, l3⟩
    refine ⟨⟨v, H', J.os, J.bare, J.base, J.hok, rv, q⟩, fun u' eu => ?_⟩
    injection eu with eu
    injection eu with eu
    subst eu
    exact ⟨Nat.le_trans ht l1, xz, tz, rfl, Nat.le_trans (Nat.succ_le_succ ht) l2, l3⟩
  · exact wpAny_mono z (fun _ s'' h => ⟨h, fun _ e => nomatch e⟩) fun _ s'' h => ⟨h, fun _ e => nomatch e⟩
theorem pef_call {X : Cx} {k : Nat} {f : Addr} {sp : Sp} {E : XK} {x : Str} {e : Expr} {es : List Expr} {t : TA} {p pos : Pos} {CX : CXT} (F : FnT X.prog X.w X.K X.mg X.base CX k f sp) (hr : Room k X.A) (hg : Gl X x) (hm : X.mg x = some (.ref f)) (hk : PySem.W.keepIn X.K (.ref f) = true)
    (hx : Passes CX X E) (ha : PA X (e :: es) t) (hdb : (x == ("__debug__" : Str)) = false := by decide) (he : starEach (e :: es) X.env = (false, eval e X.env) :: starEach es X.env := by rfl) (hpl : (backTo pos (starEach es X.env)).any (·.1) = false := by rfl) :
    PEF X (.Call (.Name x p) (e :: es) [] pos) (fun σ H Q => t σ H fun vs H1 => sp vs H1 Q E) := by
  constructor
  intro pins s σ H Q I h
  refine wpAny_Call_Name_kw (ld_glob I hg hm ?_ hdb)
  refine PySem.W.callWith_K (h₀ := X.base) I.ok.mod.kin hk (thn (tkE (Nat.le_refl s.toks) (ha.run pos pins s σ H _ I h)) ?_) he hpl
  rintro us s1 ⟨l1, vs, H1, I1, r, q⟩
  refine ⟨I1.kIn, wpAny_call (codeAny_mono (F X.A X.stack s1 H1 us vs Q E hr I1.env0 r q) fun r s' hq => ?_)⟩
  obtain ⟨hq, h2⟩ := hq
  cases r with
  | error e => exact hx pins σ H1 s1 e s' I1 hq
  | ok fl =>
    cases fl with
    | next => exact False.elim hq
    | brk => exact False.elim hq
    | cont => exact False.elim hq
    | ret u =>
      obtain ⟨l2, xz, tz, rfl, l3, l4⟩ := h2 u rfl
      exact ⟨I1.after hq, Nat.le_trans l1 l2, xz, tz, rfl, Nat.le_trans (Nat.succ_le_succ l1) l3, l4⟩
/-- x(e, ..) by a promise of its positional arguments -/
theorem pe_callR {X : Cx} {k : Nat} {f : Addr} {sp : Sp} {E : XK} {x : Str} {e : Expr} {es : List Expr} {t : TA} {p pos : Pos} {CX : CXT} (F : FnR X.prog X.w X.K X.mg X.base CX k f sp) (hr : Room k X.A) (hg : Gl X x) (hm : X.mg x = some (.ref f)) (hk : PySem.W.keepIn X.K (.ref f) = true)
    (hx : Passes CX X E) (ha : PA X (e :: es) t) (hdb : (x == ("__debug__" : Str)) = false := by decide) (he : starEach (e :: es) X.env = (false, eval e X.env) :: starEach es X.env := by rfl) (hpl : (backTo pos (starEach es X.env)).any (·.1) = false := by rfl) :
    PE X (.Call (.Name x p) (e :: es) [] pos) (fun σ H Q => t σ H fun vs H1 => sp vs H1 Q E) := by
  constructor
  intro pins s σ H Q I h
  refine wpAny_Call_Name_kw (ld_glob I hg hm ?_ hdb)
  refine PySem.W.callWith_K (h₀ := X.base) I.ok.mod.kin hk (thn (ha.run pos pins s σ H _ I h) ?_) he hpl
  rintro us s1 ⟨vs, H1, I1, r, q⟩
  exact ⟨I1.kIn, wpAny_call (run_fnR F hr hx I1 r q)⟩
end Pd

namespace Pd
open PySem PySem.Spec PyProof.Rows L2
/-! ### letter = ..; found = [letter, letter.upper(), .., ' ']; return found + [.. for k in range(..)] -/
def four (x1 x2 : Str) : List Str := [x1, Txt.upper x1, x2, " "]
def tSigns (z1 z2 : Str) (il ifd ik : Nat) (own : List Nat) (tb1 tb2 : TE) (ta : TA) (te : TE) : TS := fun D σ H => tItemC z1 tb1 σ H fun v1 H1 => ∃ x1 : Str, v1 = .str x1 ∧ x1.length ≤ 1000 ∧
  tItemC z2 tb2 (σ.set il (some (.str x1))) H1 fun v2 H2 => ∃ x2 : Str, v2 = .str x2 ∧ ∀ a H3, H2 a = none → (∃ o, H3 a = some (.frz o (.lst ((four x1 x2).map .str)))) → (∀ b, b ≠ a → H3 b = H2 b) →
    iRng1 ta ((σ.set il (some (.str x1))).set ifd (some (.ref a))) H3 fun J H4 => ∃ (n : Nat) (P : Nat → Hp → Prop) (G : Str → Prop), J = Itr 0 n ∧ n ≤ 1000 ∧ P 0 H4 ∧
      (∀ i H5, i < n → P i H5 → te ((wipe ((σ.set il (some (.str x1))).set ifd (some (.ref a))) own).set ik (some (.int (0 + i)))) H5 fun y H6 => ∃ c, y = .str c ∧ G c ∧ P (i + 1) H6) ∧
      ∀ cs H', P n H' → cs.length = n → (∀ c ∈ cs, G c) → H' a = H3 a ∧ ∀ p H4, H' p = none → TxtsAt H4 p (four x1 x2 ++ cs) → (∀ b, b ≠ p → H4 b = H' b) → D.rt (.ref p) H4
set_option maxHeartbeats 2000000 in
theorem pss_signs {X : Cx} {z1 z2 : Str} {il ifd ik : Nat} {lx fx kx : Str} {b1 b2 elt iter : Expr} {tb1 tb2 te : TE} {ta : TA} {scope : Scope} {own : List (Str × Nat)} {j1 j2 j3 : Nat}
    {a1 a2 c1 c2 c3 d1 d2 d3 d4 p1 p2 p3 q1 q2 q3 q4 q5 px pos : Pos} (hc : X.calm = true) (hN : X.N.Nodup) (hl : X.N[il]? = some lx) (hf : X.N[ifd]? = some fx) (n1 : il ≠ ifd)
    (ll : X.env.scope.names.lookup lx = some .local) (lf : X.env.scope.names.lookup fx = some .local) (h1 : PE X b1 tb1) (h2 : PE X b2 tb2) (s1 : PlainIxT b1) (s2 : PlainIxT b2)
    (hi : PI X (.Name kx px) iter (iRng1 ta)) (ok : BlkOk X.N X.env.scope scope own) (hik : ik ∈ own.map (·.2))
    (hg : ∀ (s : Shared) (H : Hp) (C : Addr) (cl : List (Str × Addr)) (fp : List Addr), PG (X.blk s H scope (compEnvC scope cl C X.env) fp) (.Name kx px) (gName ik))
    (he : ∀ (s : Shared) (H : Hp) (C : Addr) (cl : List (Str × Addr)) (fp : List Addr), PEF (X.blk s H scope (compEnvC scope cl C X.env) fp) elt te)
    (hs : ∀ x, foldedSetIterable iter X.env x = pure x) (dl : (lx == ("__debug__" : Str)) = false) (df : (fx == ("__debug__" : Str)) = false)
    (hs1 : swapsWith (.Subscript (.Constant (.str z1) j1 c1) b1 d1) (some (.Name lx a1)) p1.line X.env = pure false)
    (hs2 : swapsWith (.List [.Name lx q1, .Call (.Attribute (.Name lx q2) "upper" q3) [] [] q4, .Subscript (.Constant (.str z2) j2 c2) b2 d2, .Constant (.str " ") j3 c3] d3) (some (.Name fx a2)) p2.line X.env = pure false)
    (hst : starEach [.Name lx q1, .Call (.Attribute (.Name lx q2) "upper" q3) [] [] q4, .Subscript (.Constant (.str z2) j2 c2) b2 d2, .Constant (.str " ") j3 c3] X.env =
      [(false, eval (.Name lx q1) X.env), (false, eval (.Call (.Attribute (.Name lx q2) "upper" q3) [] [] q4) X.env), (false, eval (.Subscript (.Constant (.str z2) j2 c2) b2 d2) X.env), (false, eval (.Constant (.str " ") j3 c3) X.env)])
    (hbase : attributeBase (.Name lx q2) "upper" X.env (eval (.Name lx q2) X.env) = eval (.Name lx q2) X.env) (hline : (q3.endLine == q4.line) = true) :
    PSs X [.Assign [.Name lx a1] (.Subscript (.Constant (.str z1) j1 c1) b1 d1) p1,
      .Assign [.Name fx a2] (.List [.Name lx q1, .Call (.Attribute (.Name lx q2) "upper" q3) [] [] q4, .Subscript (.Constant (.str z2) j2 c2) b2 d2, .Constant (.str " ") j3 c3] d3) p2,
      .Return (some (.BinOp (.Name fx q5) .Add (.ListComp elt [⟨.Name kx px, iter, [], 0⟩] scope pos) d4)) p3] (tSigns z1 z2 il ifd ik (own.map (·.2)) tb1 tb2 ta te) := by
  constructor
  intro pins s σ H D I h
  refine wpAny_execs_cons (wpAny_Assign_Name (thn ((pef_item h1 s1).run pins s σ H _ I h) ?_) hs1)
  rintro u1 t1 ⟨⟨v1, H1, I1, r1, x1, rfl, hx1, h'⟩, l1, y1, k1, rfl, k1a, k1b⟩
  have e1 : y1 = x1 := by
    obtain ⟨tq, eq⟩ := r1
    injection eq
  subst e1
  refine store_raw (v := V.str y1) I1 hN hl ll r1 fun t2 I2 K2 _ l2 => ?_
  refine wpAny_execs_cons (wpAny_Assign_Name (wpAny_List_spliced ?_) hs2)
  rw [hst]
  show wpAny _ _ (spliced ((false, eval (.Name lx q1) X.env) :: (false, eval (.Call (.Attribute (.Name lx q2) "upper" q3) [] [] q4) X.env) :: (false, eval (.Subscript (.Constant (.str z2) j2 c2) b2 d2) X.env) :: [(false, eval (.Constant (.str " ") j3 c3) X.env)])) _ _ _
  refine Calls.spliced_cons (K2.load I2 (Calls.spliced_cons ?_) dl)
  refine PySem.Call_method0 hbase hline (K2.load I2 ?_ dl)
  refine ⟨"str", _, F.plainAttrs_str, F.slot_str_upper, F.type_str_upper, typeIs_str _ _ _, (fun _ e => nomatch e), Calls.callWith_builtin rfl (PySem.evalArgs_none ?_)⟩
  have fit : Builtin.Str.tooLong (Txt.upper y1).length = false := PyProof.Rows.short24 (by have := PyProof.Rows.len_upper y1; omega)
  refine PySem.SC.upper fit (Calls.spliced_cons ?_)
  refine thn ((pef_item h2 s2).run pins _ _ H1 _ (I2.tok _) h') ?_
  rintro u3 t3 ⟨⟨v2, H2, I3, r3, x2, rfl, hx2⟩, l3, y3, k3, rfl, k3a, k3b⟩
  have e3 : y3 = x2 := by
    obtain ⟨tq, eq⟩ := r3
    injection eq
  subst e3
  refine Calls.spliced_cons (Calls.Constant_str (Calls.spliced_nil ⟨by show 4 ≤ sizeLine; decide, ?_⟩))
  have lay : ∀ {o : Obj} {u : HO}, ObjOk X.prog X.w (upd H2 t3.heap.objs.size u) (t3.heap.push o) t3.heap.objs.size u → Inv X pins (σ.set il (some (V.str y1))) (upd H2 t3.heap.objs.size u) { t3 with heap := t3.heap.push o, toks := t3.toks + 1 } :=
    fun w => I3.laid (t' := t3.toks + 1) (fun b o q => Heap.get?_push_of_some _ q) (Nat.le_refl _) w
  have tk4 : TkL (s.toks + 1) (t3.toks + 1) (four y1 y3) [.str y1 k1, .str (Txt.upper y1) t2.toks, .str y3 k3, .str " " t3.toks] := by
    refine .cons (k := t2.toks) k1a (Nat.lt_of_lt_of_le k1b l2) (.cons (k := t2.toks + 1) (Nat.le_refl _) (Nat.lt_succ_self _) (.cons (k := t3.toks) ?_ k3b (.cons (k := t3.toks + 1) (Nat.le_refl _) (Nat.lt_succ_self _) (.nil (Nat.le_refl _)))))
    exact Nat.le_of_succ_le k3a
  have I4 := lay (o := { cls := .type "list", data := .seq [Value.str y1 k1, .str (Txt.upper y1) t2.toks, .str y3 k3, .str " " t3.toks].toArray }) (u := .frz { cls := .type "list", data := .seq [Value.str y1 k1, .str (Txt.upper y1) t2.toks, .str y3 k3, .str " " t3.toks].toArray } (.lst ((four y1 y3).map .str)))
    ⟨Heap.get?_push_size _ rfl, by show 4 ≤ sizeLine; decide, _, 0, tk4.vals, Heap.get?_push_size _ rfl⟩
  have new2 : H2 t3.heap.objs.size = none := I3.hok.fresh (Nat.le_refl _)
  have h3 := hx2 t3.heap.objs.size _ new2 ⟨_, upd_same⟩ fun b hb => upd_ne (o := .frz { cls := .type "list", data := .seq [Value.str y1 k1, .str (Txt.upper y1) t2.toks, .str y3 k3, .str " " t3.toks].toArray } (.lst ((four y1 y3).map .str))) hb
  generalize hA : t3.heap.objs.size = a at *
  generalize hO : ({ cls := .type "list", data := .seq [Value.str y1 k1, .str (Txt.upper y1) t2.toks, .str y3 k3, .str " " t3.toks].toArray } : Obj) = o4 at *
  refine store_raw (v := V.ref a) I4 hN hf lf rfl fun t5 I5 _ _ l5 => ?_
  refine wpAny_execs_cons (wpAny_Return_some (wpAny_BinOp ?_))
  have hlen : σ.length = X.N.length := I.len
  have lf1 : ifd < (σ.set il (some (V.str y1))).length := by rw [List.length_set, hlen]; exact (List.getElem?_eq_some_iff.mp hf).1
  refine name_ref hf lf I5 (List.getElem?_set_self lf1) ?_ df
  refine lcT hc hN I5 hi ok hik hg he hs h3 ?_
  rintro J H4 ⟨n, P, G, rfl, hn, p0, turn, fin⟩
  refine ⟨n, P, G, rfl, hn, p0, turn, ?_⟩
  intro D' cs its nn s' H' I' pn hcs hG tk ls gD nD
  obtain ⟨ha, fin2⟩ := fin cs H' pn hcs hG
  rw [upd_same] at ha
  obtain ⟨ga, _⟩ := I'.hok a _ ha
  subst hO
  refine PySem.P.add_list ga gD ?_ ?_
  · have ea : ([Value.str y1 k1, .str (Txt.upper y1) t2.toks, .str y3 k3, .str " " t3.toks].toArray ++ its.toArray) = ([Value.str y1 k1, .str (Txt.upper y1) t2.toks, .str y3 k3, .str " " t3.toks] ++ its).toArray := by simp
    rw [ea]
    have new' : H' s'.heap.objs.size = none := I'.hok.fresh (Nat.le_refl _)
    have tkA : TkL (s.toks + 1) (s'.toks + 1) (four y1 y3 ++ cs) ([Value.str y1 k1, .str (Txt.upper y1) t2.toks, .str y3 k3, .str " " t3.toks] ++ its) := (tk4.up (Nat.le_trans l5 (Nat.le_succ _))).app tk
    have len : (four y1 y3 ++ cs).length ≤ sizeLine := by
      rw [List.length_append, hcs, sizeLine_eq]; show 4 + n ≤ _; omega
    refine ⟨.ref s'.heap.objs.size, _, upd H' s'.heap.objs.size (.frz { cls := .type "list", data := .seq ([Value.str y1 k1, .str (Txt.upper y1) t2.toks, .str y3 k3, .str " " t3.toks] ++ its).toArray } (.lst ((four y1 y3 ++ cs).map .str))),
      I'.laid (t' := s'.toks) (fun b o q => Heap.get?_push_of_some _ q) (Nat.le_refl _) ⟨Heap.get?_push_size _ rfl, by rw [List.length_map]; exact len, _, 0, tkA.vals, Heap.get?_push_size _ rfl⟩, rfl, ?_⟩
    exact fin2 _ _ new' ⟨_, 0, _, _, upd_same, tkA, by omega⟩ fun b hb => upd_ne hb
  · have e := tk.vals.length
    rw [List.length_map, hcs] at e
    rw [List.size_toArray, List.size_toArray, ← e]
    show 4 + n ≤ sizeLine
    rw [sizeLine_eq]; omega
end Pd

namespace Pd
open PySem PySem.Spec PyProof.Rows L2
/-! ### an instance called with keywords alone -/
theorem callO_kw {M : Model} {A : Around} {E : Value → Shared → Prop} {s : Shared} {a : Addr} {pos : Pos} {Q : Value → Shared → Prop} {args : List (Bool × Sem Value)} {kws : List (Option Str × Sem Value)} (hplain : (args.any (·.1) || kws.any (·.1.isNone)) = false)
    (h : wpAny M A (evalArgs (.ref a) true args kws) (fun z s1 => (∃ C ox od, PySem.W.InstAt s1.heap a ox C od ∧ ox.data = .plain) ∧ wpAny M A (call (.ref a) ([] ++ z.pos) z.kw) Q E s1) E s) : wpAny M A (callWith pos (.ref a) [] args kws) Q E s := by
  unfold callWith
  refine wpAny_bind (wpAny_holding (wpAny_mono h ?_ fun _ _ y => y))
  rintro z s1 ⟨⟨C, ox, od, J, hd⟩, h1⟩
  refine wpAny_bind (wpAny_standAt ?_)
  simp only [hplain]
  refine wpAny_bind ((PySem.W.kco_keeper (M := M) J hd).here ?_)
  refine wpAny_bind (wpAny_mono (wpAny_operateT h1) ?_ fun _ _ y => y)
  exact fun r s2 hr => wpAny_bind (wpAny_holding (wpAny_point (wpAny_pure hr)))
def tCallOK (X : Cx) (C : Addr) (m : Nat) (sp : Sp) (gV : List V → List V → List V) (E : XK) (tf : TE) (tk : TA) : TE := fun σ H Q => tf σ H fun y H1 => ∃ a, y = V.ref a ∧ tk σ H1 fun zs H2 => zs.length = m ∧ StX.InsC X H2 a C ∧ sp (gV [V.ref a] zs) H2 Q E
theorem pe_callOK {X : Cx} {CX : CXT} {k : Nat} {C g : Addr} {fd : FuncData} {ps ks : List Str} {sp : Sp} {E : XK} {fe : Expr} {tf : TE} {pos : Pos} {kws : List Keyword} {tk : TA} {gv : List Value → List Value → List Value} {gV : List V → List V → List V}
    (hf : PE X fe tf) (c : StX.CallO X.K C g) (F : FnOk X.prog X.w X.K X.mg X.base CX k g fd ps sp) (hr : Room k X.A) (hb : KBn X.K fd ps 1 ks gv gV) (hx : Passes CX X E) (hkw : PK X kws tk)
    (ht : eval (.Call fe [] kws pos) X.env = (do callWith pos (← eval fe X.env) [] (backTo pos (starEach [] X.env)) (backToKw pos (keywordEach kws X.env))) := by rfl)
    (hall : (backToKw pos (keywordEach kws X.env)).all (·.1.isSome) = true := by rfl) (hks : (backToKw pos (keywordEach kws X.env)).filterMap (·.1) = ks := by rfl)
    (hpl : ((backTo pos (starEach [] X.env)).any (·.1) || (backToKw pos (keywordEach kws X.env)).any (·.1.isNone)) = false := by rfl) : PE X (.Call fe [] kws pos) (tCallOK X C ks.length sp gV E tf tk) := by
  constructor
  intro pins s σ H Q I h
  rw [ht]
  refine wpAny_bind (thn (hf.run pins s σ H _ I h) ?_)
  rintro u s1 ⟨y, H1, I1, ry, a, rfl, q⟩
  obtain rfl : u = Value.ref a := ry
  refine callO_kw hpl (evalArgs_kw2_nil hall (thn (hkw.run pos pins s1 σ H1 _ I1 q) ?_))
  rintro ws s2 ⟨zs, H2, I2, rz, l2, hi, q2⟩
  obtain ⟨ox, od, J, hd⟩ := StX.insC_at I2 hi
  refine ⟨⟨C, ox, od, J, hd⟩, ?_⟩
  rw [hks]
  have r2 := hb.rel (vs := [V.ref a]) (us := [Value.ref a]) (.cons rfl .nil) rz
  refine wpAny_call (PySem.W.kco_code (a := ⟨[] ++ [], ks.zip ws⟩) I2.kIn J hd c.at_ c.fn c.fi (codeAny_mono (F.run X.A X.stack s2 H2 ⟨[Value.ref a], ks.zip ws⟩ _ _ Q E hr I2.env0 (hb.to s2 _ ws I2.kIn rfl (rz.length.symm.trans l2)) r2 q2) ?_))
  intro r s' hq
  cases r with
  | error e => exact hx pins σ H2 s2 e s' I2 hq
  | ok fl =>
    cases fl with
    | ret u => exact I2.after hq
    | next => exact False.elim hq
    | brk => exact False.elim hq
    | cont => exact False.elim hq
end Pd

namespace Pd
open SX
/-! ### the document's steps, on lists of signs -/
/-- the signs that texts may have -/
def CH : List Nat := [97, 98, 99, 100, 101, 102, 103, 104, 105, 106, 107, 108, 109, 110, 111, 112, 113, 114, 115, 116, 117, 118, 119, 120, 121, 122,
  65, 66, 67, 68, 69, 70, 71, 72, 73, 74, 75, 76, 77, 78, 79, 80, 81, 82, 83, 84, 85, 86, 87, 88, 89, 90, 48, 49, 50, 51, 52, 53, 54, 55, 56, 57, 32, 45, 46, 95, 47, 39]
inductive Stp where
  | low | swap (a b : Nat) | drop (cs : List Nat) | lead (a : Nat) | once (a : Nat) | cut (n : Nat)
def lowC (c : Nat) : Nat := if 65 ≤ c ∧ c ≤ 90 then c + 32 else c
def swapC (a b c : Nat) : Nat := if c = a then b else c
def keepAt (a : Nat) (l : List Nat) (i : Nat) : Bool := decide (l.getD i 0 ≠ a) || decide (i = 0) || decide (l.getD (i - 1) 0 ≠ a)
def onceN (a : Nat) (l : List Nat) : Nat → List Nat
  | 0 => []
  | i + 1 => onceN a l i ++ (if keepAt a l i = true then [l.getD i 0] else [])
def onceL (a : Nat) (l : List Nat) : List Nat := onceN a l l.length
def mk : Stp → List Nat → List Nat
  | .low, l => l.map lowC
  | .swap a b, l => l.map (swapC a b)
  | .drop cs, l => l.filter (fun c => decide (c ∉ cs))
  | .lead a, l => l.dropWhile (fun c => decide (c = a))
  | .once a, l => onceL a l
  | .cut n, l => l.take n
/-- a step that the document allows -/
def Stp.ok : Stp → Prop
  | .low => True
  | .swap a b => a ∈ CH ∧ b ∈ CH
  | .drop cs => 1 ≤ cs.length ∧ cs.length ≤ 10 ∧ cs.Nodup ∧ ∀ c ∈ cs, c ∈ CH
  | .lead a => a ∈ CH
  | .once a => a ∈ CH
  | .cut n => 1 ≤ n ∧ n ≤ 9
/-- a text that the document allows -/
def Good (l : List Nat) : Prop := (∀ c ∈ l, c ∈ CH) ∧ l.length ≤ 60
theorem onceN_mem {a : Nat} {l : List Nat} : ∀ {i : Nat}, i ≤ l.length → ∀ c ∈ onceN a l i, c ∈ l
  | 0, _, c, h => nomatch h
  | i + 1, hi, c, h => by
    rw [onceN] at h
    rcases List.mem_append.mp h with h | h
    · exact onceN_mem (Nat.le_of_succ_le hi) c h
    · split at h
      · rw [List.mem_singleton.mp h]
        have e : l.getD i 0 = l[i] := by
          have e2 : l[i]? = some l[i] := List.getElem?_eq_getElem (by omega)
          simp only [List.getD, e2, Option.getD_some]
        rw [e]; exact List.getElem_mem _
      · exact nomatch h
theorem onceN_len {a : Nat} {l : List Nat} : ∀ i : Nat, (onceN a l i).length ≤ i
  | 0 => Nat.le_refl _
  | i + 1 => by
    rw [onceN, List.length_append]
    have := onceN_len (a := a) (l := l) i
    split <;> simp <;> omega
/-- the last one that is kept -/
theorem onceN_last {a : Nat} {l : List Nat} : ∀ i : Nat, (onceN a l i).getLast? = some a ↔ (0 < i ∧ l.getD (i - 1) 0 = a)
  | 0 => by simp [onceN]
  | i + 1 => by
    have ih := onceN_last (a := a) (l := l) i
    rw [onceN]
    by_cases k : keepAt a l i = true
    · rw [if_pos k, List.getLast?_concat]
      simp
    · rw [if_neg k, List.append_nil, ih]
      have k' : keepAt a l i = false := by simpa using k
      simp only [keepAt, Bool.or_eq_false_iff, decide_eq_false_iff_not, Decidable.not_not] at k'
      obtain ⟨⟨h1, h2⟩, h3⟩ := k'
      simp only [Nat.add_sub_cancel]
      exact ⟨fun _ => ⟨by omega, h1⟩, fun _ => ⟨by omega, h3⟩⟩
/-- no two of a side by side -/
def NoAdj (a : Nat) (m : List Nat) : Prop := ∀ i, 0 < i → i < m.length → ¬ (m.getD i 0 = a ∧ m.getD (i - 1) 0 = a)
theorem noAdj_snoc {a c : Nat} {m : List Nat} (h : NoAdj a m) (hc : ¬ (c = a ∧ m.getLast? = some a)) : NoAdj a (m ++ [c]) := by
  intro i h0 hi
  rw [List.length_append] at hi
  simp at hi
  by_cases e : i = m.length
  · subst e
    rintro ⟨h1, h2⟩
    have e1 : (m ++ [c]).getD m.length 0 = c := by simp [List.getD]
    have e2 : (m ++ [c]).getD (m.length - 1) 0 = m.getD (m.length - 1) 0 := by
      simp only [List.getD, List.getElem?_append_left (show m.length - 1 < m.length by omega)]
    rw [e1] at h1
    rw [e2] at h2
    refine hc ⟨h1, ?_⟩
    rw [List.getLast?_eq_getElem?]
    have : m[m.length - 1]? = some m[m.length - 1] := List.getElem?_eq_getElem (by omega)
    rw [this]
    simp only [List.getD, this, Option.getD_some] at h2
    rw [h2]
  · have hi' : i < m.length := by omega
    have e1 : (m ++ [c]).getD i 0 = m.getD i 0 := by simp only [List.getD, List.getElem?_append_left hi']
    have e2 : (m ++ [c]).getD (i - 1) 0 = m.getD (i - 1) 0 := by simp only [List.getD, List.getElem?_append_left (show i - 1 < m.length by omega)]
    rw [e1, e2]
    exact h i h0 hi'
theorem onceN_noAdj {a : Nat} {l : List Nat} : ∀ i : Nat, NoAdj a (onceN a l i)
  | 0 => fun i _ hi => by simp [onceN] at hi
  | i + 1 => by
    rw [onceN]
    by_cases k : keepAt a l i = true
    · rw [if_pos k]
      refine noAdj_snoc (onceN_noAdj i) ?_
      rintro ⟨h1, h2⟩
      rw [onceN_last] at h2
      simp only [keepAt, Bool.or_eq_true, decide_eq_true_eq] at k
      rcases k with (k | k) | k
      · exact k h1
      · omega
      · exact k h2.2
    · rw [if_neg k, List.append_nil]
      exact onceN_noAdj i
theorem onceN_id {a : Nat} {m : List Nat} (h : NoAdj a m) : ∀ i : Nat, i ≤ m.length → onceN a m i = m.take i
  | 0, _ => by simp [onceN]
  | i + 1, hi => by
    have k : keepAt a m i = true := by
      simp only [keepAt, Bool.or_eq_true, decide_eq_true_eq]
      by_cases h0 : i = 0
      · exact .inl (.inr h0)
      · by_cases h1 : m.getD i 0 = a
        · exact .inr fun h2 => h i (by omega) hi ⟨h1, h2⟩
        · exact .inl (.inl h1)
    rw [onceN, onceN_id h i (by omega), if_pos k, List.take_succ]
    have : m[i]? = some m[i] := List.getElem?_eq_getElem hi
    simp only [List.getD, this, Option.getD_some, Option.toList_some]
theorem onceL_idem (a : Nat) (l : List Nat) : onceL a (onceL a l) = onceL a l := by
  show onceN a (onceL a l) (onceL a l).length = _
  have h := onceN_id (m := onceL a l) (onceN_noAdj _) _ (Nat.le_refl _)
  rw [h, List.take_length]
theorem lowC_lowC (c : Nat) : lowC (lowC c) = lowC c := by
  unfold lowC
  split
  · split <;> omega
  · rfl
theorem dropWhile_idem (p : Nat → Bool) : ∀ l : List Nat, (l.dropWhile p).dropWhile p = l.dropWhile p
  | [] => rfl
  | c :: r => by
    by_cases h : p c = true
    · rw [List.dropWhile_cons_of_pos h]; exact dropWhile_idem p r
    · rw [List.dropWhile_cons_of_neg h, List.dropWhile_cons_of_neg h]
/-- a step changes nothing of what it made -/
theorem mk_idem (st : Stp) (l : List Nat) : mk st (mk st l) = mk st l := by
  cases st with
  | low => show (l.map lowC).map lowC = l.map lowC; rw [List.map_map]; exact List.map_congr_left fun c _ => lowC_lowC c
  | swap a b =>
    show (l.map (swapC a b)).map (swapC a b) = l.map (swapC a b)
    rw [List.map_map]
    refine List.map_congr_left fun c _ => ?_
    show swapC a b (swapC a b c) = swapC a b c
    unfold swapC
    by_cases h : c = a
    · simp [h]
    · simp [h]
  | drop cs => show (l.filter _).filter _ = l.filter _; rw [List.filter_filter]; exact List.filter_congr fun c _ => Bool.and_self _
  | lead a => exact dropWhile_idem _ l
  | once a => exact onceL_idem a l
  | cut n => show (l.take n).take n = l.take n; rw [List.take_take, Nat.min_self]
theorem mk_len (st : Stp) (l : List Nat) : (mk st l).length ≤ l.length := by
  cases st with
  | low => exact Nat.le_of_eq (List.length_map _)
  | swap a b => exact Nat.le_of_eq (List.length_map _)
  | drop cs => exact List.length_filter_le _ _
  | lead a => exact (List.dropWhile_suffix _).length_le
  | once a => exact onceN_len _
  | cut n => exact List.length_take_le' _ _
theorem low_CH : ∀ c ∈ CH, lowC c ∈ CH := by decide
theorem mk_CH {st : Stp} {l : List Nat} (hs : st.ok) (h : ∀ c ∈ l, c ∈ CH) : ∀ c ∈ mk st l, c ∈ CH := by
  intro c hc
  cases st with
  | low => obtain ⟨d, hd, rfl⟩ := List.mem_map.mp hc; exact low_CH d (h d hd)
  | swap a b =>
    obtain ⟨d, hd, rfl⟩ := List.mem_map.mp hc
    unfold swapC
    split
    · exact hs.2
    · exact h d hd
  | drop cs => exact h c (List.mem_filter.mp hc).1
  | lead a => exact h c ((List.dropWhile_suffix _).subset hc)
  | once a => exact h c (onceN_mem (Nat.le_refl _) c hc)
  | cut n => exact h c (List.mem_of_mem_take hc)
theorem mk_good {st : Stp} {l : List Nat} (hs : st.ok) (h : Good l) : Good (mk st l) := ⟨mk_CH hs h.1, Nat.le_trans (mk_len st l) h.2⟩
theorem CH_lt : ∀ c ∈ CH, c < 128 := by decide
theorem CH_len : CH.length = 68 := rfl
theorem CH_nodup : CH.Nodup := by decide
end Pd

namespace Pd
open PySem PySem.Spec PyProof.Rows L2
/-! ### the operators of an own class: +, in, not in -/
section
variable {X : Cx} {CX : CXT} {C g : Addr} {n : Nat} {sp : Sp} {E : XK}
def rAddOwn (C : Addr) (sp : Sp) (E : XK) : R2 := fun x y H Q => ∃ a dx fs b dy gs, x = .ref a ∧ y = .ref b ∧ H a = some (.ins C dx fs) ∧ H b = some (.ins C dy gs) ∧ sp [.ref a, .ref b] H Q E
theorem op_addOwn (hc : PySem.W.selfFirst X.K C = true) (hs : PySem.W.findIn X.K (.ref C) "__add__" = some (some (.ref g))) (hf : PySem.W.isFn X.K (.ref g) = true) (F : FnR X.prog X.w X.K X.mg X.base CX n g sp) (hr : Room n X.A) (hx : Passes CX X E) :
    OpR X (binaryOp .Add) (rAddOwn C sp E) := by
  intro pins s σ H x y v u Q I rx ry h
  obtain ⟨a, dx, fs, b, dy, gs, rfl, rfl, ha, hb, q⟩ := h
  cases (show v = Value.ref a from rx)
  cases (show u = Value.ref b from ry)
  obtain ⟨mA, J, _⟩ := ins_get I.hok ha
  obtain ⟨mB, J', _⟩ := ins_get I.hok hb
  obtain ⟨od, J, _⟩ := J.look
  obtain ⟨od', J', _⟩ := J'.look
  obtain ⟨m, hF⟩ := I.fr
  refine PySem.W.binop_K (op := .Add) hF I.ok.mod.kin J J'.type hc hs hf ?_
  refine wpAny_mono (wpAny_call (run_fnR (us := [.ref a, .ref b]) (vs := [.ref a, .ref b]) F hr hx I (.cons rfl (.cons rfl .nil)) q)) (fun w s' z => ?_) fun _ _ x => x
  obtain ⟨z', H', I', rz, qz⟩ := z
  exact SlX.cmpback rz ⟨z', H', I', rz, qz⟩
def rInOwn (C : Addr) (k : Bool → Bool) (sp : Sp) (E : XK) : R2 := fun x y H Q => ∃ a dx fs, y = .ref a ∧ H a = some (.ins C dx fs) ∧ sp [.ref a, x] H (fun z H' => ∃ b, z = .bl b ∧ Q (.bl (k b)) H') E
theorem op_inOwn (hs : PySem.W.findIn X.K (.ref C) "__contains__" = some (some (.ref g))) (hf : PySem.W.isFn X.K (.ref g) = true) (F : FnR X.prog X.w X.K X.mg X.base CX n g sp) (hr : Room n X.A) (hx : Passes CX X E) :
    OpR X (compareOp .In) (rInOwn C (fun b => b) sp E) := by
  intro pins s σ H x y v u Q I rx ry h
  obtain ⟨a, dx, fs, rfl, ha, q⟩ := h
  cases (show u = Value.ref a from ry)
  obtain ⟨mA, J, _⟩ := ins_get I.hok ha
  obtain ⟨od, J, _⟩ := J.look
  obtain ⟨m, hF⟩ := I.fr
  refine PySem.W.in_K hF I.ok.mod.kin J hs hf ?_
  refine wpAny_mono (wpAny_call (run_fnR (us := [.ref a, v]) (vs := [.ref a, x]) F hr hx I (.cons rfl (.cons rx .nil)) q)) (fun w s' z => ?_) fun _ _ x => x
  obtain ⟨z', H', I', rz, b, rfl, qz⟩ := z
  cases (show w = Value.bool b from rz)
  exact wpAny_truthy_bool ⟨.bl b, H', I', rfl, qz⟩
theorem op_notInOwn (hs : PySem.W.findIn X.K (.ref C) "__contains__" = some (some (.ref g))) (hf : PySem.W.isFn X.K (.ref g) = true) (F : FnR X.prog X.w X.K X.mg X.base CX n g sp) (hr : Room n X.A) (hx : Passes CX X E) :
    OpR X (compareOp .NotIn) (rInOwn C (fun b => !b) sp E) := by
  intro pins s σ H x y v u Q I rx ry h
  obtain ⟨a, dx, fs, rfl, ha, q⟩ := h
  cases (show u = Value.ref a from ry)
  obtain ⟨mA, J, _⟩ := ins_get I.hok ha
  obtain ⟨od, J, _⟩ := J.look
  obtain ⟨m, hF⟩ := I.fr
  refine PySem.W.notIn_K hF I.ok.mod.kin J hs hf ?_
  refine wpAny_mono (wpAny_call (run_fnR (us := [.ref a, v]) (vs := [.ref a, x]) F hr hx I (.cons rfl (.cons rx .nil)) q)) (fun w s' z => ?_) fun _ _ x => x
  obtain ⟨z', H', I', rz, b, rfl, qz⟩ := z
  cases (show w = Value.bool b from rz)
  exact wpAny_truthy_bool ⟨.bl (!b), H', I', rfl, qz⟩
end
end Pd

namespace Pd
open PySem PySem.Spec PyProof.Rows L2
/-! ### an instance called where it may raise, in a try -/
def InsP (H : Hp) (a C : Addr) : Prop := (∃ dx vs, SlX.Slt H a C dx vs) ∨ ∃ dx fs, H a = some (.ins C dx fs)
def tCallOS (C : Addr) (sp : Sp) (E : L2.St → XK) (tf : TE) (t : TA) : TE := fun σ H Q => tf σ H fun y H1 => ∃ a, y = V.ref a ∧ t σ H1 fun vs H2 => InsP H2 a C ∧ sp (V.ref a :: vs) H2 Q (E σ)
theorem pe_callOS {X : Cx} {CX : CXT} {k : Nat} {C g : Addr} {sp : Sp} {E : L2.St → XK} {fe e : Expr} {es : List Expr} {tf : TE} {t : TA} {pos : Pos} (hf : PE X fe tf) (c : StX.CallO X.K C g) (F : FnR X.prog X.w X.K X.mg X.base CX k g sp) (hr : Room k X.A) (hx : ∀ σ, PassesAt CX X σ (E σ)) (ha : PA X (e :: es) t)
    (ht : eval (.Call fe (e :: es) [] pos) X.env = (do callWith pos (← eval fe X.env) [] (backTo pos (starEach (e :: es) X.env)) (backToKw pos (keywordEach [] X.env))) := by rfl)
    (he : starEach (e :: es) X.env = (false, eval e X.env) :: starEach es X.env := by rfl) (hpl : (backTo pos (starEach es X.env)).any (·.1) = false := by rfl) : PE X (.Call fe (e :: es) [] pos) (tCallOS C sp E tf t) := by
  constructor
  intro pins s σ H Q I h
  refine Call_ (thn (hf.run pins s σ H _ I h) fun u s1 ⟨y, H1, I1, ry, a, ey, q⟩ => ?_) ht
  subst ey
  obtain rfl : u = Value.ref a := ry
  refine StX.callO_with (thn (ha.run pos pins s1 σ H1 _ I1 q) fun us s2 ⟨vs, H2, I2, r, hi, q2⟩ => ?_) he hpl
  obtain ⟨ox, od, J, hd⟩ := StX.insC_at I2 (show StX.InsC X H2 a C from hi)
  refine ⟨⟨C, ox, od, J, hd⟩, wpAny_call (PySem.W.kco_code I2.kIn J hd c.at_ c.fn c.fi (codeAny_mono (F X.A X.stack s2 H2 (.ref a :: us) (.ref a :: vs) Q (E σ) hr I2.env0 (.cons rfl r) q2) ?_))⟩
  intro r s' hq
  cases r with
  | error e => exact hx σ pins H2 s2 e s' I2 hq
  | ok fl =>
    cases fl with
    | ret u => exact I2.after hq
    | next => exact False.elim hq
    | brk => exact False.elim hq
    | cont => exact False.elim hq
end Pd

namespace Pd
open PySem PySem.Spec PyProof.Rows L2
/-- list(text): some list -/
theorem call_listStr {X : Cx} (hc : X.calm = true) : CallR X (.type "list") (fun xs H Q => ∃ x : Str, xs = [.str x] ∧ x.cps.size ≤ 1000 ∧ ∀ p ys, H p = none → Q (.ref p) (upd H p (.lst ys))) := by
  intro pins s σ H xs us Q I r h
  obtain ⟨x, rfl, hz, q⟩ := h
  obtain ⟨u, rfl, t, rfl⟩ := vals1 r
  refine PySem.call_list_str (hn := by rw [sizeLine_eq]; omega) (I.ok.hd hc) x t fun h' tk acc c hk hS hacc => ?_
  have key : ∃ ys : List V, Vals ys acc.toList ∧ ys.length = x.cps.size := by
    have hsz : acc.size = x.cps.size := hacc.1
    have all : ∀ u ∈ acc.toList, ∃ v : V, RelV v u := fun u hu => by
      obtain ⟨i, hi, e⟩ := List.getElem_of_mem hu
      have hi' : i < acc.size := by simpa using hi
      obtain ⟨c', t', _, e2⟩ := hacc.2 i u (by rw [← e]; simp [hi'])
      exact ⟨.str ⟨#[c']⟩, t', e2⟩
    have mk : ∀ l : List Value, (∀ u ∈ l, ∃ v : V, RelV v u) → ∃ ys : List V, Vals ys l := by
      intro l
      induction l with
      | nil => exact fun _ => ⟨[], .nil⟩
      | cons u l ih =>
        intro h
        obtain ⟨v, hv⟩ := h u (List.mem_cons_self ..)
        obtain ⟨ys, hys⟩ := ih fun w hw => h w (List.mem_cons_of_mem _ hw)
        exact ⟨v :: ys, .cons hv hys⟩
    obtain ⟨ys, hys⟩ := mk _ all
    exact ⟨ys, hys, by rw [hys.length, Array.length_toList, hsz]⟩
  obtain ⟨ys, hys, hl⟩ := key
  have new : H s.heap.objs.size = none := I.hok.fresh (Nat.le_refl _)
  refine ⟨.ref s.heap.objs.size, upd H s.heap.objs.size (.lst ys), I.laid (t' := tk) (fun b o e => hk b o e) (Nat.le_refl _) ?_, rfl, q _ _ new⟩
  exact ⟨by rw [hl, sizeLine_eq]; omega, acc.toList, c, hys, by simpa using hS⟩
end Pd

set_option maxHeartbeats 2000000
namespace Pd
open PySem PySem.Spec PyProof.Rows L2
/-! ### rules that hold where at least n tokens are out -/
section
variable {α : Type} {M : Model} {A : Around} {E : Value → Shared → Prop} {s : Shared}
theorem thk {t : Sem α} {Q Q' : α → Shared → Prop} {n : Nat} (l : n ≤ s.toks) (h : wpAny M A t Q E s) (k : ∀ a s', n ≤ s'.toks → Q a s' → Q' a s') : wpAny M A t Q' E s :=
  thn (tkE l h) fun a s' z => k a s' z.1 z.2
end
structure PEn (n : Nat) (X : Cx) (e : Expr) (t : TE) : Prop where
  run : ∀ (pins : List (Addr × Obj)) (s : Shared) (σ : L2.St) (H : Hp) (Q : VK), n ≤ s.toks → Inv X pins σ H s → t σ H Q → wpAny (model X.prog X.w) X.A (eval e X.env) (EP X pins σ Q) X.xe s
structure PTn (n : Nat) (X : Cx) (e : Expr) (t : TT) : Prop where
  run : ∀ (pins : List (Addr × Obj)) (s : Shared) (σ : L2.St) (H : Hp) (Q : Bool → Hp → Prop), n ≤ s.toks → Inv X pins σ H s → t σ H Q → wpAny (model X.prog X.w) X.A (isTrue e X.env (eval e X.env)) (TP X pins σ Q) X.xe s
structure PAn (n : Nat) (X : Cx) (es : List Expr) (t : TA) : Prop where
  run : ∀ (pos : Pos) (pins : List (Addr × Obj)) (s : Shared) (σ : L2.St) (H : Hp) (Q : List V → Hp → Prop), n ≤ s.toks → Inv X pins σ H s → t σ H Q → wpAny (model X.prog X.w) X.A (spliced (backTo pos (starEach es X.env))) (AP X pins σ Q) X.xe s
structure PSn (n : Nat) (X : Cx) (st : Stmt) (t : TS) : Prop where
  run : ∀ (pins : List (Addr × Obj)) (s : Shared) (σ : L2.St) (H : Hp) (D : Ends), n ≤ s.toks → Inv X pins σ H s → t D σ H → wpAny (model X.prog X.w) X.A (exec st X.env) (SP X pins D) X.xe s
structure PSsn (n : Nat) (X : Cx) (sts : List Stmt) (t : TS) : Prop where
  run : ∀ (pins : List (Addr × Obj)) (s : Shared) (σ : L2.St) (H : Hp) (D : Ends), n ≤ s.toks → Inv X pins σ H s → t D σ H → wpAny (model X.prog X.w) X.A (execs sts X.env) (SP X pins D) X.xe s
/-- a def that may be called where n tokens are out -/
def FnN (n : Nat) (P : Program) (w : World) (K : PySem.W.Frag) (mg : Str → Option Value) (base : Heap) (k : Nat) (f : Addr) (sp : Sp) : Prop :=
  ∀ (A : Around) (outer : List Env) (s : Shared) (H : Hp) (us : List Value) (vs : List V) (Q : VK) (E : XK), n ≤ s.toks → Room k A → Env0 P w K mg base A outer s H → Vals vs us → sp vs H Q E →
    codeAny (model P w) A (.call (.ref f) ⟨us, []⟩) (CR CX0 outer P w H s Q E) s
section
variable {X : Cx} {n : Nat} {e a b c : Expr} {es : List Expr} {te ta tb : TE} {tl : TA} {t u v : TS} {tt tu : TT} {st : Stmt} {rest : List Stmt} {pos p : Pos}
theorem pen (h : PE X e te) : PEn n X e te := ⟨fun pins s σ H Q _ I q => h.run pins s σ H Q I q⟩
theorem ptn (h : PT X e tt) : PTn n X e tt := ⟨fun pins s σ H Q _ I q => h.run pins s σ H Q I q⟩
theorem pan (h : PA X es tl) : PAn n X es tl := ⟨fun pos pins s σ H Q _ I q => h.run pos pins s σ H Q I q⟩
theorem psn (h : PS X st t) : PSn n X st t := ⟨fun pins s σ H D _ I q => h.run pins s σ H D I q⟩
theorem pssn (h : PSs X rest t) : PSsn n X rest t := ⟨fun pins s σ H D _ I q => h.run pins s σ H D I q⟩
theorem PSsn.toT (h : PSsn 1 X rest t) : PSsT X rest t := fun pins s σ H D l I q => h.run pins s σ H D l I q
theorem PEn.mono {m : Nat} (h : PEn n X e te) (l : n ≤ m) : PEn m X e te := ⟨fun pins s σ H Q k I q => h.run pins s σ H Q (Nat.le_trans l k) I q⟩
/-! #### statements -/
theorem pssn_cons (h1 : PSn n X st t) (h2 : PSsn n X rest u) : PSsn n X (st :: rest) (tSeq t u) := by
  constructor
  intro pins s σ H D l I h
  refine wpAny_execs_cons (thk l (h1.run pins s σ H { D with nx := u D } l I h) fun f s1 l1 q => ?_)
  cases f with
  | next =>
    obtain ⟨σ', H', J, q'⟩ := q
    exact h2.run pins s1 σ' H' D l1 J q'
  | ret w => exact q
  | brk => exact q
  | cont => exact q
theorem pssn_one (h1 : PSn n X st t) : PSsn n X [st] t := by
  constructor
  intro pins s σ H D l I h
  refine wpAny_execs_cons (thn (h1.run pins s σ H D l I h) fun f s1 q => ?_)
  cases f with
  | next => exact wpAny_execs_nil q
  | ret w => exact q
  | brk => exact q
  | cont => exact q
theorem psn_if {s1 s2 : List Stmt} (hc : PTn n X c tt) (ha : PSsn n X s1 t) (hb : PSsn n X s2 u) : PSn n X (.If c s1 s2 pos) (tIfS tt t u) := by
  constructor
  intro pins s σ H D l I h
  refine wpAny_If (thk l (hc.run pins s σ H _ l I h) fun d s' l' ⟨H1, I1, q1⟩ => ?_)
  cases d with
  | true => exact ha.run pins s' σ H1 D l' I1 q1
  | false => exact hb.run pins s' σ H1 D l' I1 q1
theorem psn_ret (he : PEn n X e te) : PSn n X (.Return (some e) pos) (tRet te) := by
  constructor
  intro pins s σ H D l I h
  exact wpAny_Return_some (thn (he.run pins s σ H _ l I h) fun w s1 ⟨x, H1, I1, r1, q1⟩ => ⟨x, σ, H1, I1, r1, q1⟩)
theorem psn_expr (he : PEn n X e te) (hs : swapsWith e none pos.line X.env = pure false := by rfl) : PSn n X (.Expr e pos) (tDrop te) := by
  constructor
  intro pins s σ H D l I h
  exact wpAny_Expr_any (thn (he.run pins s σ H _ l I h) fun w s1 ⟨x, H1, I1, r1, q1⟩ => ⟨σ, H1, I1, q1⟩) I.quiet hs
theorem psn_set {i : Nat} {x : Str} {pos' : Pos} (hN : X.N.Nodup) (hi : X.N[i]? = some x) (hx : Loc X.env.scope x) (he : PEn n X e te) (hs : swapsWith e (some (.Name x pos')) pos.line X.env = pure false := by rfl)
    (hf : X.fn x = true ∨ X.env.scope.names.lookup x = some .local := by first | exact .inl rfl | exact .inr rfl | assumption) : PSn n X (.Assign [.Name x pos'] e pos) (tAsg te (gName i)) := by
  constructor
  intro pins s σ H D l I h
  refine wpAny_Assign_Name (thn (he.run pins s σ H _ l I h) fun w s1 ⟨y, H1, I1, r1, q1⟩ => ?_) hs
  exact store_ok I1 hN hi hx r1 (fun s2 I2 => ⟨_, H1, I2, q1⟩) hf
/-! #### arguments, calls -/
theorem pan_cons (ha : PEn n X e te) (hr : PAn n X es tl) (hs : starEach (e :: es) X.env = (false, eval e X.env) :: starEach es X.env := by rfl) : PAn n X (e :: es) (tCons te tl) := by
  constructor
  intro pos pins s σ H Q l I h
  rw [hs]
  show wpAny _ _ (spliced ((false, eval e X.env) :: backTo pos (starEach es X.env))) _ _ s
  refine Calls.spliced_cons (thk l (ha.run pins s σ H _ l I h) fun w s1 l1 ⟨x, H1, I1, r1, q1⟩ => ?_)
  exact thn (hr.run pos pins s1 σ H1 _ l1 I1 q1) fun us s2 ⟨xs, H2, I2, r2, q2⟩ => ⟨x :: xs, H2, I2, .cons r1 r2, q2⟩
theorem pan_nil : PAn n X [] tNil := pan pa_nil
section
variable {k : Nat} {f : Addr} {sp : Sp} {E : XK} {x : Str}
theorem run_fnN {pins : List (Addr × Obj)} {σ : L2.St} {H : Hp} {s : Shared} {us : List Value} {vs : List V} {Q : VK} (F : FnN n X.prog X.w X.K X.mg X.base k f sp) (hr : Room k X.A) (l : n ≤ s.toks) (I : Inv X pins σ H s) (r : Vals vs us) (h : sp vs H Q E) :
    codeAny (model X.prog X.w) X.A (.call (.ref f) ⟨us, []⟩) (fun r s' => match r with | .ok (.ret v) => EP X pins σ Q v s' | .ok _ => False | .error e => X.xe e s') s := by
  refine codeAny_mono (F X.A X.stack s H us vs Q E l hr I.env0 r h) fun r s' hq => ?_
  cases r with
  | error e => exact pass0 pins σ H s e s' I hq
  | ok fl =>
    cases fl with
    | ret w => exact I.after hq
    | next => exact False.elim hq
    | brk => exact False.elim hq
    | cont => exact False.elim hq
theorem pen_callN (F : FnN n X.prog X.w X.K X.mg X.base k f sp) (hr : Room k X.A) (hg : Gl X x) (hm : X.mg x = some (.ref f)) (hk : PySem.W.keepIn X.K (.ref f) = true)
    (ha : PAn n X (e :: es) tl) (hdb : (x == ("__debug__" : Str)) = false := by decide) (he : starEach (e :: es) X.env = (false, eval e X.env) :: starEach es X.env := by rfl) (hpl : (backTo pos (starEach es X.env)).any (·.1) = false := by rfl) :
    PEn n X (.Call (.Name x p) (e :: es) [] pos) (tCall sp [] E tl) := by
  constructor
  intro pins s σ H Q l I h
  refine wpAny_Call_Name_kw (ld_glob I hg hm ?_ hdb)
  refine PySem.W.callWith_K (h₀ := X.base) I.ok.mod.kin hk (thk l (ha.run pos pins s σ H _ l I h) ?_) he hpl
  rintro us s1 l1 ⟨vs, H1, I1, r, q⟩
  rw [List.append_nil] at q
  exact ⟨I1.kIn, wpAny_call (run_fnN F hr l1 I1 r q)⟩
/-- a plain def, its arguments with n tokens out -/
theorem pen_call {CX : CXT} (F : FnR X.prog X.w X.K X.mg X.base CX k f sp) (hr : Room k X.A) (hg : Gl X x) (hm : X.mg x = some (.ref f)) (hk : PySem.W.keepIn X.K (.ref f) = true) (hx : Passes CX X E)
    (ha : PAn n X (e :: es) tl) (hdb : (x == ("__debug__" : Str)) = false := by decide) (he : starEach (e :: es) X.env = (false, eval e X.env) :: starEach es X.env := by rfl) (hpl : (backTo pos (starEach es X.env)).any (·.1) = false := by rfl) :
    PEn n X (.Call (.Name x p) (e :: es) [] pos) (tCall sp [] E tl) := by
  constructor
  intro pins s σ H Q l I h
  refine wpAny_Call_Name_kw (ld_glob I hg hm ?_ hdb)
  refine PySem.W.callWith_K (h₀ := X.base) I.ok.mod.kin hk (thn (ha.run pos pins s σ H _ l I h) ?_) he hpl
  rintro us s1 ⟨vs, H1, I1, r, q⟩
  rw [List.append_nil] at q
  exact ⟨I1.kIn, wpAny_call (run_fnR F hr hx I1 r q)⟩
end
/-! #### operators, tests -/
theorem pen_op {op : Operator} {r : R2} (ho : OpR X (binaryOp op) r) (ha : PEn n X a ta) (hb : PEn n X b tb) : PEn n X (.BinOp a op b pos) (tOp r ta tb) := by
  constructor
  intro pins s σ H Q l I h
  refine wpAny_BinOp (thk l (ha.run pins s σ H _ l I h) fun w s1 l1 ⟨x, H1, I1, r1, q1⟩ => ?_)
  exact thn (hb.run pins s1 σ H1 _ l1 I1 q1) fun w2 s2 ⟨y, H2, I2, r2, q2⟩ => ho pins s2 σ H2 x y w w2 Q I2 r1 r2 q2
theorem pen_cmpR {op : CmpOp} {r : R2} (ho : OpR X (compareOp op) r) (ha : PEn n X a ta) (hb : PEn n X b tb) (hm : behindInMarks op b = false) : PEn n X (.Compare a [op] [b] pos) (tOp r ta tb) := by
  constructor
  intro pins s σ H Q l I h
  refine wpAny_Compare1 (thk l (ha.run pins s σ H _ l I h) fun w s1 l1 ⟨x, H1, I1, r1, q1⟩ => ?_) hm
  exact thn (hb.run pins s1 σ H1 _ l1 I1 q1) fun w2 s2 ⟨y, H2, I2, r2, q2⟩ => ho pins s2 σ H2 x y w w2 Q I2 r1 r2 q2
theorem ptn_val (h : PEn n X e te) (he : ∀ whole, isTrue e X.env whole = (do let v ← whole; standAt e.pos; holding [v] (truthy v)) := by intro _; rfl) : PTn n X e (tB te) := by
  constructor
  intro pins s σ H Q l I hw
  refine isTrue_plain (thn (h.run pins s σ H _ l I hw) fun w s1 ⟨x, H1, I1, r1, q1⟩ => ?_) (he _)
  obtain ⟨d, rfl, q⟩ := q1
  cases r1
  exact wpAny_truthy_bool ⟨H1, I1, q⟩
theorem ptn_not (ha : PTn n X a tt) : PTn n X (.UnaryOp .Not a pos) (tNot tt) := by
  constructor
  intro pins s σ H Q l I h
  exact isTrue_not (ha.run pins s σ H (fun c H1 => Q (!c) H1) l I h)
/-- a method of texts, its argument with n tokens out -/
theorem pen_m1 {id : String} {name : Str} {apos : Pos} {r : V → List V → Hp → VK → Prop} (slot : Slot "str" name id) (ty : typeOf (.builtin id) = pure (.type "method_descriptor")) (rule : MtR X id r) (ho : PEn n X a ta) (he : PEn n X e te)
    (hs : starEach [e] X.env = [(false, eval e X.env)] := by rfl) (hbase : attributeBase a name X.env (eval a X.env) = eval a X.env := by rfl) (hline : (apos.endLine == pos.line) = true := by rfl) :
    PEn n X (.Call (.Attribute a name apos) [e] [] pos) (tM1 r ta te) := by
  constructor
  intro pins s σ H Q l I h
  refine PySem.Call_method1 hbase hs hline (thk l (ho.run pins s σ H _ l I h) ?_)
  rintro v s1 l1 ⟨x, H1, I1, r1, ⟨z, rfl⟩, q1⟩
  obtain ⟨t, rfl⟩ := _root_.id r1
  refine ⟨"str", _, F.plainAttrs_str, slot, ty, typeIs_str _ _ _, (fun _ e => nomatch e), Calls.callWith_builtin rfl (Calls.evalArgs_plain (Calls.spliced_cons ?_))⟩
  exact thn (he.run pins s1 σ H1 _ l1 I1 q1) fun w s2 ⟨y, H2, I2, r2, q2⟩ => Calls.spliced_nil (rule pins s2 σ H2 _ [y] _ [w] Q I2 r1 (.cons r2 .nil) q2)
/-- written texts replaced, a token out -/
theorem pen_replC {y z : Str} {j k : Nat} {c0 c1 apos : Pos} (hn : 1 ≤ n) (ho : PE X a ta) (hyz : (y == z) = false := by decide)
    (hst : starEach [.Constant (.str y) j c0, .Constant (.str z) k c1] X.env = [(false, eval (.Constant (.str y) j c0) X.env), (false, eval (.Constant (.str z) k c1) X.env)] := by rfl)
    (hbase : attributeBase a "replace" X.env (eval a X.env) = eval a X.env := by rfl) (hline : (apos.endLine == pos.line) = true := by rfl) :
    PEn n X (.Call (.Attribute a "replace" apos) [.Constant (.str y) j c0, .Constant (.str z) k c1] [] pos) (CwR.tReplC ta y z) :=
  ⟨fun pins s σ H Q l I h => CwR.pet_replC (j := j) (k := k) ho hyz hst hbase hline pins s σ H Q (Nat.le_trans hn l) I h⟩
end
end Pd

set_option maxHeartbeats 4000000
namespace Pd
open PySem PySem.Spec PyProof.Rows L2
/-! ### a comprehension, n tokens out -/
set_option maxHeartbeats 4000000 in
theorem pen_lc {n : Nat} {X : Cx} {elt tg iter : Expr} {ifs : List Expr} {scope : Scope} {own : List (Str × Nat)} {pos : Pos} {wi : TI} {g : TG} {tt : TT} {te : TE} (hc : X.calm = true) (hN : X.N.Nodup) (hi : PI X tg iter wi) (ok : BlkOk X.N X.env.scope scope own)
    (hg : ∀ (s : Shared) (H : Hp) (C : Addr) (cl : List (Str × Addr)) (fp : List Addr), PG (X.blk s H scope (compEnvC scope cl C X.env) fp) tg g)
    (ht : ∀ (s : Shared) (H : Hp) (C : Addr) (cl : List (Str × Addr)) (fp : List Addr), PTs (X.blk s H scope (compEnvC scope cl C X.env) fp) ifs tt)
    (he : ∀ (s : Shared) (H : Hp) (C : Addr) (cl : List (Str × Addr)) (fp : List Addr), PEn n (X.blk s H scope (compEnvC scope cl C X.env) fp) elt te) (hs : ∀ x, foldedSetIterable iter X.env x = pure x := by intro _; rfl) :
    PEn n X (.ListComp elt [⟨tg, iter, ifs, 0⟩] scope pos) (tLc wi g tt te (own.map (·.2))) := by
  constructor
  intro pins s σ H Q l0 I h
  rw [eval_ListComp]
  have hf : ∀ y ∈ scope.names, y.2 = .free → ∃ c, X.env.cells.lookup y.1 = some c := by
    intro y hy e
    rcases ok.free y hy e with k | k
    · exact I.ok.has _ (.inl k)
    · exact I.ok.has _ (.inr k)
  refine wpAny_comprehension_free (use := none) rfl hs (closure_ok hf) ok.kind (fun y hy e => by rw [ok.uniq y hy, e]) (thk l0 (hi.run pins s σ H _ I h) ?_)
  intro xv s1 l1 hx
  refine thk l1 hx ?_
  rintro itv s2 l2 ⟨it, fp, tn, J, H2, rfl, I2, T, st2, f2, q⟩
  refine wpAny_newObj_type (newEnv_comp ?_) (by show 0 ≤ sizeLine; decide)
  generalize hD : s2.heap.objs.size = D
  have dn : H2 D = none := I2.hok.fresh (Nat.le_of_eq hD)
  obtain ⟨W, ⟨m0, w0⟩, turn⟩ := q D dn
  generalize hs3 : ({ s2 with heap := s2.heap.push { cls := .type "list", data := .seq ([] : List Value).toArray } } : Shared) = s3
  have t3 : s3.toks = s2.toks := by rw [← hs3]
  have h3 : s3.heap = s2.heap.push { cls := .type "list", data := .seq ([] : List Value).toArray } := by rw [← hs3]
  have I3 : Inv X pins σ (upd H2 D (.lst [])) s3 := by
    rw [← hs3]
    refine I2.laid (t' := s2.toks) (fun b o e => Heap.get?_push_of_some _ e) (Nat.le_of_eq hD) ⟨Nat.zero_le _, [], 0, .nil, ?_⟩
    rw [← hD]
    exact Heap.get?_push_size _ rfl
  have sz : ∀ b ∈ fp, b < s2.heap.objs.size := by
    intro b hb
    obtain ⟨o, e, _⟩ := T.obj _ _ st2 b hb
    exact Heap.lt_size e
  have f3 : ∀ b ∈ fp, FpOk X pins (upd H2 D (.lst [])) b ∧ b < s3.heap.objs.size := by
    intro b hb
    have z := sz b hb
    refine ⟨⟨?_, (f2 b hb).2⟩, by rw [h3, Heap.size_push]; exact Nat.lt_succ_of_lt z⟩
    rw [upd_ne (by rw [← hD]; exact Nat.ne_of_lt z)]
    exact (f2 b hb).1
  have st3 : tn 0 s3.heap := T.keep _ _ _ st2 fun b _ o e => by rw [h3]; exact Heap.get?_push_of_some _ e
  have I4 := block_start I3 ok hN f3
  have pg := hg s3 (upd H2 D (.lst [])) s3.heap.objs.size (cellsFrom (s3.heap.objs.size + 1) scope.names (cloFrom X.env.cells scope.names [])) fp
  have pt := ht s3 (upd H2 D (.lst [])) s3.heap.objs.size (cellsFrom (s3.heap.objs.size + 1) scope.names (cloFrom X.env.cells scope.names [])) fp
  have pe := he s3 (upd H2 D (.lst [])) s3.heap.objs.size (cellsFrom (s3.heap.objs.size + 1) scope.names (cloFrom X.env.cells scope.names [])) fp
  have nfp : ∀ b ∈ fp, (upd H2 D (.lst [])) b = none := fun b hb => (f3 b hb).1.1
  show codeAny _ _ (.compStart (.ListComp elt [⟨tg, iter, ifs, 0⟩] scope pos) 0 (.ref it) (.ref D) (compEnvC scope (cellsFrom (s3.heap.objs.size + 1) scope.names (cloFrom X.env.cells scope.names [])) s3.heap.objs.size X.env))
    (compPost (model X.prog X.w) X.A X.xe none (EP X pins σ Q) (.ref D) s3.heap.objs.size) { s3 with heap := pushCells (s3.heap.push { cls := .type "dict", data := .dict #[] }) scope.names }
  generalize hce : compEnvC scope (cellsFrom (s3.heap.objs.size + 1) scope.names (cloFrom X.env.cells scope.names [])) s3.heap.objs.size X.env = ce at I4 pg pt pe ⊢
  have cL : ce.locals = s3.heap.objs.size := by subst hce; rfl
  generalize hH3 : upd H2 D (.lst []) = H3 at I3 I4 pg pt pe w0 nfp f3
  generalize hs4 : ({ s3 with heap := pushCells (s3.heap.push { cls := .type "dict", data := .dict #[] }) scope.names } : Shared) = s4 at I4 ⊢
  have l4 : n ≤ s4.toks := by rw [← hs4]; show n ≤ s3.toks; rw [t3]; exact l2
  have st4 : tn 0 s4.heap := T.keep _ _ _ st3 fun b _ o e => by rw [← hs4]; exact pushCells_keeps _ _ _ _ (Heap.get?_push_of_some _ e)
  have stat : ∀ {σ' : L2.St} {H' : Hp} {s' : Shared}, Inv (X.blk s3 H3 scope ce fp) [] σ' H' s' → (∀ b ∈ fp, H' b = none) → ∀ b ∈ fp, FpOk (X.blk s3 H3 scope ce fp) [] H' b := fun {σ' H' s'} I' hn b hb =>
    ⟨hn b hb, (I'.ok.exf b hb).1, I'.ok.exfs b hb, .inl hb, fun x c e => (I'.ok.exf b hb).2 x c e, fun p hp => absurd (show p ∈ ([] : List (Addr × Obj)) ++ [] from hp) (by simp)⟩
  have loop : codeAny (model X.prog X.w) X.A (.compLoop (.ListComp elt [⟨tg, iter, ifs, 0⟩] scope pos) 0 (.ref it) (.ref D) ce) (compPost (model X.prog X.w) X.A X.xe none (EP X pins σ Q) (.ref D) s3.heap.objs.size) s4 := by
    refine compLoop_any (fun m s' => n ≤ s'.toks ∧ ∃ i H', Inv (X.blk s3 H3 scope ce fp) [] (wipe σ (own.map (·.2))) H' s' ∧ tn i s'.heap ∧ (∀ b ∈ fp, H' b = none) ∧ W i m H') ?_ m0 ⟨l4, 0, H3, I4, st4, nfp, w0⟩
    rintro m s5 ⟨l5, i, H5, I5, st5, n5, w5⟩
    rcases turn i m H5 w5 with ⟨stop, qq⟩ | ⟨go, Nx, hNx, step⟩
    · refine thnF (T.done (X.blk s3 H3 scope ce fp) rfl rfl rfl hc i [] s5 _ H5 (fun _ _ => False) I5 (stat I5 n5) st5 stop) ?_
      rintro r s6 ⟨rfl, I6⟩
      have I7 : Inv X pins σ H5 s6 := I3.call' (ch := fp) I6.os I6.base I6.hok I6.bare fun b hb => ⟨(f3 b hb).1.2.2.2.1, (f3 b hb).1.2.1, (f3 b hb).1.2.2.2.2.1, (f3 b hb).1.2.2.2.2.2⟩
      have nC : H5 s3.heap.objs.size = none := by
        have z : H5 ce.locals = none := I6.free
        rw [cL] at z
        exact z
      obtain ⟨mm, hn, _⟩ := I6.loc
      have hn : s6.heap.Ns ce.locals mm := hn
      rw [cL] at hn
      obtain ⟨g0, g1, g2, g3, g4, g5⟩ := I3.fpOk (H' := H5) (Nat.le_refl _) nC
      exact ⟨mm, hn, fun g sb => ⟨.ref D, H5, I7.turned (t' := s6.toks) (fun b o hb e => (sb.2 b hb).trans e) g0 g1 g3 g4 g5, rfl, qq⟩⟩
    · refine thnF (tkE l5 (T.item (X.blk s3 H3 scope ce fp) rfl rfl rfl hc i [] s5 _ H5 (fun _ _ => False) I5 (stat I5 n5) st5 go)) ?_
      rintro r s6 ⟨l6, u, rfl, h6⟩
      refine thnF (tkE l6 h6) ?_
      rintro _ s7 ⟨l7, x, H7, I7, r7, y7, st7, n7⟩
      have I7' := I7.pinned (stat I7 n7) (T.obj _ _ st7)
      refine thnF (tkE l7 (pg.run _ s7 _ H7 x u _ I7' r7 (step x H7 y7))) ?_
      rintro _ s8 ⟨l8, σ8, H8, I8, hw8, q8⟩
      refine thnF (tkE l8 (pt.run _ s8 σ8 H8 _ I8 q8)) ?_
      rintro b s9 ⟨l9, H9, I9, q9⟩
      have fin : ∀ {s' : Shared} {H' : Hp}, n ≤ s'.toks → Inv (X.blk s3 H3 scope ce fp) ([] ++ pinsAt fp s7.heap) σ8 H' s' → Nx H' →
          ∃ m', m' < m ∧ n ≤ s'.toks ∧ ∃ i H', Inv (X.blk s3 H3 scope ce fp) [] (wipe σ (own.map (·.2))) H' s' ∧ tn i s'.heap ∧ (∀ b ∈ fp, H' b = none) ∧ W i m' H' := by
        intro s' H' ls I' nx
        obtain ⟨m', hm, w'⟩ := hNx H' nx
        have pin' : ∀ b ∈ fp, ∀ o, s7.heap.get? b = some o → s'.heap.get? b = some o ∧ H' b = none := fun b hb o e =>
          let z := I'.pin (b, o) (List.mem_append_right _ (List.mem_append_right _ (mem_pinsAt hb e)))
          ⟨z.1, z.2.1⟩
        have hl : (wipe σ (own.map (·.2))).length = σ8.length := by rw [← hw8, wipe_length]
        refine ⟨m', hm, ls, i + 1, H', (I'.unpinned (pins := [])).weak hl (fun j v e => ?_), T.keep _ _ _ st7 fun b hb o e => (pin' b hb o e).1, fun b hb => ?_, w'⟩
        · rw [← hw8] at e
          exact (wipe_some e).1
        · obtain ⟨o, e, _⟩ := T.obj _ _ st7 b hb
          exact (pin' b hb o e).2
      cases b with
      | false =>
        simp only [Bool.false_eq_true, if_false] at q9 ⊢
        exact fin l9 I9 q9
      | true =>
        simp only [if_true] at q9 ⊢
        refine thnF (tkE l9 (pe.run _ s9 σ8 H9 _ l9 I9 q9)) ?_
        rintro z s10 ⟨l10, yv, H10, I10, r10, acc, hD10, hz10, nx⟩
        refine thnF (tkE l10 (app_ok (X := X.blk s3 H3 scope ce fp) (Q := fun _ s' => Inv (X.blk s3 H3 scope ce fp) ([] ++ pinsAt fp s7.heap) σ8 (upd H10 D (.lst (acc ++ [yv]))) s') I10 hD10 hz10 r10 fun s11 I11 => I11)) ?_
        rintro _ s11 ⟨l11, I11⟩
        exact fin l11 I11 nx
  exact codeAny_compStart_list loop (T.self X.A 0 _ _ _ st4 loop)
/-! ### defs -/
theorem fnN_of {P : Program} {w : World} {K : PySem.W.Frag} {mg : Str → Option Value} {base : Heap} {x qual : Str} {st : Stmt} {f : Addr} {fd : FuncData} {N ps : List Str} {k n : Nat} {sp : Sp}
    (F : Fun K x qual st f fd) (S : FnScope N ps (defScope st))
    (hb : ∀ (kV doc pm : Value) (an : Option Addr) (cdv ct : Value) (us : List Value), us.length = ps.length → bindArgs (PySem.W.fnOf x qual (defArgs st) (defBody st) (defScope st) .none kV doc pm an cdv ct) ⟨us, []⟩ = pure (ps.zip us))
    (len : ∀ vs H Q E, sp vs H Q E → vs.length = ps.length)
    (hbody : ∀ (cdv : Value) (A : Around) (outer : List Env) (s : Shared) (H : Hp) (vs : List V) (Q : VK) (E : XK), Room k (A.deeper (envOfC qual (defScope st) s.heap.objs.size f cdv)) → sp vs H Q E →
      ∃ t, PSsn n (cxOf CX0 P w K mg base N qual (defScope st) f cdv A outer s H E) (defBody st) t ∧ t { nx := fun _ H' => Q .non H', rt := Q } (start N vs) H) : FnN n P w K mg base (k + 1) f sp := by
  obtain ⟨oc, od, kV, doc, pm, an, cdv, ct, osl, rfl, lk, hcd⟩ := F.ex
  intro A outer s H us vs Q E l0 hr e0 r hsp
  have hl : us.length = ps.length := r.length.symm.trans (len _ _ _ _ hsp)
  have KX : K.In s.heap := e0.mod.kin.keeps fun b o e => (e0.bs b o e).1
  have lim : s.heap.NoLimit := e0.mod.nolimit.keeps fun b o e => (e0.bs b o e).1
  have hkind : ∀ y ∈ ps.zip us, (defScope st).names.lookup y.1 = some .local ∨ ((defScope st).names.lookup y.1 = some .cell ∧ ((cellsFrom (s.heap.objs.size + 1) (defScope st).names []).lookup y.1).isSome = true) := fun y hy => by
    rcases S.par y.1 (List.of_mem_zip hy).1 with q | q
    · exact .inl q
    · exact .inr ⟨q, PySem.W.cellsFrom_some _ _ _ (.inl q)⟩
  refine codeAny_call_function hr.depth (KX _ _ lk) rfl S.co S.gen rfl (PySem.W.codeRec_of KX hcd) (BindsTo.of_eq (hb kV doc pm an cdv ct us hl) _ _ _ _ ?_)
  refine wpAny_mono (tkE (Nat.le_refl s.toks) (wpAny_newFunctionEnv_cells S.kind hkind fun env he s1 x => (⟨he, x⟩ : env = _ ∧ InCallC s _ _ _ _ s1))) ?_ fun _ _ z => z
  rintro env s1 ⟨ht, rfl, x⟩
  refine ⟨lim.keeps x.toInCall.keep, codeAny_func ?_⟩
  obtain ⟨t, he, hq⟩ := hbody cdv A outer s H vs Q E (hr.deeper _) hsp
  have I : Inv (cxOf CX0 P w K mg base N qual (defScope st) f cdv A outer s H E) [] (start N vs) H s1 := inv_start S hr.hd e0 (len _ _ _ _ hsp) r x
  refine wpAny_mono (he.run [] s1 _ H _ (Nat.le_trans l0 ht) I hq) (fun fl s' hs => ?_) fun _ _ z => z
  cases fl with
  | ret u =>
    obtain ⟨v, σ', H', J, rv, q⟩ := hs
    exact ⟨v, H', J.os, J.bare, J.base, J.hok, rv, q⟩
  | next =>
    obtain ⟨σ', H', J, q⟩ := hs
    exact ⟨.non, H', J.os, J.bare, J.base, J.hok, rfl, q⟩
  | brk =>
    obtain ⟨_, _, _, q⟩ := hs
    exact False.elim q
  | cont =>
    obtain ⟨_, _, _, q⟩ := hs
    exact False.elim q
/-- a def with a parameter: behind the binding a token is out -/
theorem fnOk_1 {P : Program} {w : World} {K : PySem.W.Frag} {mg : Str → Option Value} {base : Heap} {x qual : Str} {st : Stmt} {f : Addr} {fd : FuncData} {N ps : List Str} {k : Nat} {sp : Sp} {CX : CXT}
    (F : Fun K x qual st f fd) (S : FnScope N ps (defScope st)) (hnc : ∀ y ∈ (defScope st).names, y.2 ≠ .cell) (hps : 1 ≤ ps.length)
    (len : ∀ vs H Q E, sp vs H Q E → vs.length = ps.length)
    (hbody : ∀ (cdv : Value) (A : Around) (outer : List Env) (s : Shared) (H : Hp) (vs : List V) (Q : VK) (E : XK), Room k (A.deeper (envOfC qual (defScope st) s.heap.objs.size f cdv)) → sp vs H Q E →
      ∃ t, PSsn 1 (cxOf CX P w K mg base N qual (defScope st) f cdv A outer s H E) (defBody st) t ∧ t { nx := fun _ H' => Q .non H', rt := Q } (start N vs) H) : FnOk P w K mg base CX (k + 1) f fd ps sp := by
  obtain ⟨oc, od, kV, doc, pm, an, cdv, ct, osl, rfl, lk, hcd⟩ := F.ex
  exact fn_ofT lk hcd S hnc hps len fun A outer s H vs Q E hr h => by
    obtain ⟨t, h1, h2⟩ := hbody cdv A outer s H vs Q E hr h
    exact ⟨t, h1.toT, h2⟩
end Pd

set_option maxHeartbeats 2000000
namespace Pd
open PySem PySem.Spec PyProof.Rows L2
/-! ### a sign of a text, as a new text -/
def tIxS (ta tb : TE) : TE := fun σ H Q => ta σ H fun x H1 => ∃ z : Str, x = .str z ∧ tb σ H1 fun y H2 => ∃ (i : Int) (c : Nat), y = .int i ∧ 0 ≤ i ∧ i < z.length ∧ z.length ≤ 1000 ∧ z.cps[i.toNat]? = some c ∧ Q (.str ⟨#[c]⟩) H2
/-- as PEF, but the new token may be the first free one -/
structure PEG (X : Cx) (e : Expr) (t : TE) : Prop where
  run : ∀ (pins : List (Addr × Obj)) (s : Shared) (σ : L2.St) (H : Hp) (Q : VK), Inv X pins σ H s → t σ H Q →
    wpAny (model X.prog X.w) X.A (eval e X.env) (fun u s' => EP X pins σ Q u s' ∧ s.toks ≤ s'.toks ∧ Frsh s.toks s'.toks u) X.xe s
theorem PEF.peg {X : Cx} {e : Expr} {t : TE} (h : PEF X e t) : PEG X e t := ⟨fun pins s σ H Q I q => thn (h.run pins s σ H Q I q) fun u s' ⟨a, b, x, t, e, l1, l2⟩ => ⟨a, b, x, t, e, by omega, l2⟩⟩
theorem peg_ix {X : Cx} {a b : Expr} {ta tb : TE} {pos : Pos} (ha : PE X a ta) (hb : PE X b tb) (hs : PlainIxT b) : PEG X (.Subscript a b pos) (tIxS ta tb) := by
  constructor
  intro pins s σ H Q I h
  refine Subscript_ (thk (Nat.le_refl s.toks) (ha.run pins s σ H _ I h) ?_)
  rintro u0 s1 l1 ⟨x, H1, I1, rx, z, rfl, h1⟩
  obtain ⟨tz, rfl⟩ := rx
  refine thk l1 (hb.run pins s1 σ H1 _ I1 h1) ?_
  rintro u s2 l2 ⟨y, H2, I2, ry, i, c, rfl, h0, h1, hz, hc, q⟩
  obtain ⟨t, rfl⟩ := ry
  have e : seqIndex? i z.length = some i.toNat := PySem.StrLaws.seqIndex_nonneg h0 h1
  refine tail_any (typeIs_str s2 z tz) slot_str_getitem.lookup (getItem_str (c := c) ?_ (by rw [e]; exact hc) ⟨⟨.str ⟨#[c]⟩, H2, I2.tok _, ⟨_, rfl⟩, q⟩, ?_, _, _, rfl, ?_, ?_⟩) (hs _ _)
  · rw [decide_eq_false (by omega), decide_eq_false (by omega)]; rfl
  · show s.toks ≤ s2.toks + 1; omega
  · exact l2
  · exact Nat.lt_succ_self _
/-! ### a test that gives out a token -/
structure PTF (X : Cx) (e : Expr) (t : TT) : Prop where
  run : ∀ (pins : List (Addr × Obj)) (s : Shared) (σ : L2.St) (H : Hp) (Q : Bool → Hp → Prop), Inv X pins σ H s → t σ H Q →
    wpAny (model X.prog X.w) X.A (isTrue e X.env (eval e X.env)) (fun b s' => TP X pins σ Q b s' ∧ s.toks + 1 ≤ s'.toks) X.xe s
def tEqI (k : Int) (ta : TE) : TT := fun σ H Q => ta σ H fun x H1 => ∃ n : Int, x = .int n ∧ Q (n == k) H1
theorem ptf_eqI {X : Cx} {a : Expr} {ta : TE} {k : Int} {j : Nat} {cp pos : Pos} (ha : PE X a ta) : PTF X (.Compare a [.Eq] [.Constant (.int k) j cp] pos) (tEqI k ta) := by
  constructor
  intro pins s σ H Q I h
  refine wpAny_isTrue_Compare1 (thk (Nat.le_refl s.toks) (ha.run pins s σ H _ I h) ?_)
  rintro u s1 l1 ⟨x, H1, I1, rx, n, rfl, q⟩
  obtain ⟨t, rfl⟩ := rx
  exact wpAny_Constant_int (eq_int (wpAny_truthy_bool ⟨⟨H1, I1.tok _, q⟩, Nat.succ_le_succ l1⟩))
/-! ### a def of two returns that gives a new text -/
theorem fnT_if {P : Program} {w : World} {K : PySem.W.Frag} {mg : Str → Option Value} {base : Heap} {x qual : Str} {st : Stmt} {f : Addr} {fd : FuncData} {N ps : List Str} {k : Nat} {sp : Sp} {c e1 e2 : Expr} {p1 p2 p3 : Pos}
    (F : Fun K x qual st f fd) (S : FnScope N ps (defScope st)) (hst : defBody st = [.If c [.Return (some e1) p1] [] p2, .Return (some e2) p3])
    (hb : ∀ (kV doc pm : Value) (an : Option Addr) (cdv ct : Value) (us : List Value), us.length = ps.length → bindArgs (PySem.W.fnOf x qual (defArgs st) (defBody st) (defScope st) .none kV doc pm an cdv ct) ⟨us, []⟩ = pure (ps.zip us))
    (len : ∀ vs H Q E, sp vs H Q E → vs.length = ps.length)
    (hbody : ∀ (cdv : Value) (A : Around) (outer : List Env) (s : Shared) (H : Hp) (vs : List V) (Q : VK) (E : XK), Room k (A.deeper (envOfC qual (defScope st) s.heap.objs.size f cdv)) → sp vs H Q E →
      ∃ tc t1 t2, PTF (cxOf CX0 P w K mg base N qual (defScope st) f cdv A outer s H E) c tc ∧ PEG (cxOf CX0 P w K mg base N qual (defScope st) f cdv A outer s H E) e1 t1 ∧ PEG (cxOf CX0 P w K mg base N qual (defScope st) f cdv A outer s H E) e2 t2 ∧
        tc (start N vs) H fun b H1 => if b = true then t1 (start N vs) H1 Q else t2 (start N vs) H1 Q) : FnT P w K mg base CX0 (k + 1) f sp := by
  obtain ⟨oc, od, kV, doc, pm, an, cdv, ct, osl, rfl, lk, hcd⟩ := F.ex
  intro A outer s H us vs Q E hr e0 r hsp
  have hl : us.length = ps.length := r.length.symm.trans (len _ _ _ _ hsp)
  have KX : K.In s.heap := e0.mod.kin.keeps fun b o e => (e0.bs b o e).1
  have lim : s.heap.NoLimit := e0.mod.nolimit.keeps fun b o e => (e0.bs b o e).1
  have hkind : ∀ y ∈ ps.zip us, (defScope st).names.lookup y.1 = some .local ∨ ((defScope st).names.lookup y.1 = some .cell ∧ ((cellsFrom (s.heap.objs.size + 1) (defScope st).names []).lookup y.1).isSome = true) := fun y hy => by
    rcases S.par y.1 (List.of_mem_zip hy).1 with q | q
    · exact .inl q
    · exact .inr ⟨q, PySem.W.cellsFrom_some _ _ _ (.inl q)⟩
  refine codeAny_call_function hr.depth (KX _ _ lk) rfl S.co S.gen rfl (PySem.W.codeRec_of KX hcd) (BindsTo.of_eq (hb kV doc pm an cdv ct us hl) _ _ _ _ ?_)
  refine wpAny_mono (tkE (Nat.le_refl s.toks) (wpAny_newFunctionEnv_cells S.kind hkind fun env he s1 x => (⟨he, x⟩ : env = _ ∧ InCallC s _ _ _ _ s1))) ?_ fun _ _ z => z
  rintro env s1 ⟨ht, rfl, x⟩
  refine ⟨lim.keeps x.toInCall.keep, codeAny_func ?_⟩
  obtain ⟨tc, t1, t2, hc, h1, h2, hq⟩ := hbody cdv A outer s H vs Q E (hr.deeper _) hsp
  have I : Inv (cxOf CX0 P w K mg base N qual (defScope st) f cdv A outer s H E) [] (start N vs) H s1 := inv_start S hr.hd e0 (len _ _ _ _ hsp) r x
  rw [hst]
  have fin : ∀ {s2 : Shared} {H2 : Hp} {e : Expr} {t : TE}, s.toks + 1 ≤ s2.toks → PEG (cxOf CX0 P w K mg base N qual (defScope st) f cdv A outer s H E) e t → Inv (cxOf CX0 P w K mg base N qual (defScope st) f cdv A outer s H E) [] (start N vs) H2 s2 → t (start N vs) H2 Q →
      ∀ {p : Pos}, wpAny (model P w) (cxOf CX0 P w K mg base N qual (defScope st) f cdv A outer s H E).A (exec (.Return (some e) p) (cxOf CX0 P w K mg base N qual (defScope st) f cdv A outer s H E).env) (fun fl s' => ∃ u, fl = .ret u ∧ CE outer P w H s Q u s' ∧ s.toks ≤ s'.toks ∧ Frsh (s.toks + 1) s'.toks u) (cxOf CX0 P w K mg base N qual (defScope st) f cdv A outer s H E).xe s2 := by
    intro s2 H2 e t l2 pe I2 q2 p
    refine wpAny_Return_some (wpAny_mono (pe.run [] s2 _ H2 Q I2 q2) ?_ fun _ _ z => z)
    rintro u s' ⟨⟨v, H', J, rv, q⟩, m1, xz, tz, rfl, m2, m3⟩
    exact ⟨_, rfl, ⟨v, H', J.os, J.bare, J.base, J.hok, rv, q⟩, by omega, xz, tz, rfl, by omega, m3⟩
  have run : wpAny (model P w) (cxOf CX0 P w K mg base N qual (defScope st) f cdv A outer s H E).A (execs [.If c [.Return (some e1) p1] [] p2, .Return (some e2) p3] (cxOf CX0 P w K mg base N qual (defScope st) f cdv A outer s H E).env) (fun fl s' => ∃ u, fl = .ret u ∧ CE outer P w H s Q u s' ∧ s.toks ≤ s'.toks ∧ Frsh (s.toks + 1) s'.toks u)
      (cxOf CX0 P w K mg base N qual (defScope st) f cdv A outer s H E).xe s1 := by
    refine wpAny_execs_cons (wpAny_If (thn (hc.run [] s1 _ H _ I hq) fun d s2 ⟨⟨H2, I2, q2⟩, l1⟩ => ?_))
    have l2 : s.toks + 1 ≤ s2.toks := Nat.le_trans (Nat.succ_le_succ ht) l1
    cases d with
    | true =>
      refine wpAny_execs_cons (wpAny_mono (fin l2 h1 I2 q2) ?_ fun _ _ z => z)
      rintro fl s3 ⟨u, rfl, r3⟩
      exact ⟨u, rfl, r3⟩
    | false =>
      refine wpAny_execs_nil ?_
      refine wpAny_execs_cons (wpAny_mono (fin l2 h2 I2 q2) ?_ fun _ _ z => z)
      rintro fl s3 ⟨u, rfl, r3⟩
      exact ⟨u, rfl, r3⟩
  refine wpAny_mono run ?_ ?_
  · rintro fl s' ⟨u, rfl, ce, l, fr⟩
    refine ⟨ce, fun u' e => ?_⟩
    injection e with e
    injection e with e
    subst e
    exact ⟨l, fr⟩
  · intro e s' h
    exact wpAny_mono h (fun _ _ h => ⟨h, fun _ e => nomatch e⟩) fun _ _ h => ⟨h, fun _ e => nomatch e⟩
/-! ### return ('swap', e1, e2), both new texts -/
def tSwapT (t1 t2 : TE) : TS := fun D σ H => t1 σ H fun x H1 => t2 σ H1 fun y H2 => ∃ a b : Str, x = .str a ∧ y = .str b ∧ ∀ p H3, H2 p = none → SwapAt H3 p a b → (∀ c, c ≠ p → H3 c = H2 c) → D.rt (.ref p) H3
theorem ps_retSwap {X : Cx} {e1 e2 : Expr} {t1 t2 : TE} {j k : Nat} {c p q : Pos} (h1 : PEF X e1 t1) (h2 : PEF X e2 t2)
    (hst : starEach [.Constant (.str "swap") j c, e1, e2] X.env = [(false, eval (.Constant (.str "swap") j c) X.env), (false, eval e1 X.env), (false, eval e2 X.env)] := by rfl) :
    PS X (.Return (some (.Tuple [.Constant (.str "swap") j c, e1, e2] k p)) q) (tSwapT t1 t2) := by
  constructor
  intro pins s σ H D I h
  refine wpAny_Return_some (Tuple_ ?_)
  rw [hst]
  show wpAny _ _ (spliced ((false, eval (.Constant (.str "swap") j c) X.env) :: (false, eval e1 X.env) :: [(false, eval e2 X.env)])) _ _ _
  refine Calls.spliced_cons (Calls.Constant_str (Calls.spliced_cons ?_))
  refine thn (h1.run pins _ σ H _ (I.tok _) h) ?_
  rintro u1 s1 ⟨⟨x, H1, I1, r1, h'⟩, l1, z1, k1, rfl, m1, m2⟩
  refine Calls.spliced_cons (thn (h2.run pins s1 σ H1 _ I1 h') ?_)
  rintro u2 s2 ⟨⟨y, H2, I2, r2, a, b, rfl, rfl, fin⟩, l2, z2, k2, rfl, m3, m4⟩
  obtain rfl : z1 = a := by obtain ⟨_, e⟩ := r1; injection e
  obtain rfl : z2 = b := by obtain ⟨_, e⟩ := r2; injection e
  refine Calls.spliced_nil (wpAny_newTuple ?_ (by show 3 ≤ sizeLine; decide))
  have new : H2 s2.heap.objs.size = none := I2.hok.fresh (Nat.le_refl _)
  refine ⟨.ref s2.heap.objs.size, σ, upd H2 s2.heap.objs.size (.frz { cls := .type "tuple", data := .seq #[.str "swap" s.toks, .str z1 k1, .str z2 k2] 0 } (.tup [.str "swap", .str z1, .str z2])), ?_, rfl, fin _ _ new ⟨0, _, k1, k2, upd_same, ?_, ?_, fun z => ?_⟩ fun b hb => upd_ne hb⟩
  · exact I2.laid (t' := s2.toks) (fun b o q => Heap.get?_push_of_some _ q) (Nat.le_refl _) ⟨Heap.get?_push_size _ rfl, by show 3 ≤ sizeLine; decide, [.str "swap" _, .str z1 k1, .str z2 k2], .cons ⟨_, rfl⟩ (.cons ⟨_, rfl⟩ (.cons ⟨_, rfl⟩ .nil)), ⟨_, Heap.get?_push_size _ rfl, rfl, _, rfl⟩⟩
  · exact Nat.ne_of_gt (Nat.lt_of_lt_of_le (Nat.succ_pos _) m1)
  · exact Nat.ne_of_gt (Nat.lt_of_lt_of_le (Nat.succ_pos _) m3)
  · subst z
    exact absurd (Nat.lt_of_lt_of_le m2 (Nat.le_of_succ_le m3)) (Nat.lt_irrefl _)
end Pd

set_option maxHeartbeats 2000000
namespace Pd
open PySem PySem.Spec PyProof.Rows L2
theorem callR_or {X : Cx} {f : Value} {r1 r2 : List V → Hp → VK → Prop} (h1 : CallR X f r1) (h2 : CallR X f r2) : CallR X f (fun xs H Q => r1 xs H Q ∨ r2 xs H Q) := by
  intro pins s σ H xs us Q I r h
  rcases h with h | h
  · exact h1 pins s σ H xs us Q I r h
  · exact h2 pins s σ H xs us Q I r h
/-- f(k = v, ..) -/
theorem pe_callK0 {X : Cx} {CX : CXT} {k : Nat} {f : Addr} {fd : FuncData} {ps ks : List Str} {sp : Sp} {E : XK} {x : Str} {p pos : Pos} {kws : List Keyword} {tk : TA} {g : List Value → List Value → List Value} {gV : List V → List V → List V}
    (F : FnOk X.prog X.w X.K X.mg X.base CX k f fd ps sp) (hr : Room k X.A) (hg : Gl X x) (hm : X.mg x = some (.ref f)) (hk : PySem.W.keepIn X.K (.ref f) = true) (hb : KBn X.K fd ps 0 ks g gV) (hx : Passes CX X E) (hkw : PK X kws tk)
    (hall : (backToKw pos (keywordEach kws X.env)).all (·.1.isSome) = true := by rfl) (hks : (backToKw pos (keywordEach kws X.env)).filterMap (·.1) = ks := by rfl) (hdb : (x == ("__debug__" : Str)) = false := by decide)
    (hpl : ((backTo pos (starEach [] X.env)).any (·.1) || (backToKw pos (keywordEach kws X.env)).any (·.1.isNone)) = false := by rfl) :
    PE X (.Call (.Name x p) [] kws pos) (tCallN 0 ks.length sp gV E tNil tk) := by
  constructor
  intro pins s σ H Q I h
  refine wpAny_Call_Name_kw (ld_glob I hg hm ?_ hdb)
  refine PySem.W.callWith_KW0 (h₀ := X.base) I.ok.mod.kin hk hall ?_ hpl
  refine thn (hkw.run pos pins s σ H _ I h) fun ws s2 ⟨zs, H2, I2, rz, l1, l2, q2⟩ => ⟨I2.kIn, ?_⟩
  rw [hks]
  exact L2.run_fnN (us := []) (vs := []) F hr hb hx I2 .nil rz rfl l2 q2
end Pd

set_option maxHeartbeats 4000000
namespace Pd
open PySem PySem.Spec PyProof.Rows L2
/-! ### raw values of local names, through calls -/
theorem Holds.at' {X : Cx} {s s' : Shared} {x : Str} {u : Value} (h : Holds X s x u) (e : ∀ o, s.heap.get? X.env.locals = some o → ∃ sl, s'.heap.get? X.env.locals = some { o with slots := sl }) : Holds X s' x u := by
  obtain ⟨kd, m, ⟨o, es, ep, h1, h2, h3, h4⟩, hm⟩ := h
  obtain ⟨sl, e1⟩ := e o h1
  exact ⟨kd, m, ⟨_, es, ep, e1, h2, h3, h4⟩, hm⟩
theorem Holds.up {X : Cx} {s s' : Shared} {x : Str} {u : Value} (h : Holds X s x u) (k : ∀ b o, s.heap.get? b = some o → s'.heap.get? b = some o) : Holds X s' x u := h.at' fun o e => ⟨o.slots, k _ _ e⟩
/-- an expression that leaves the local names as they are -/
structure PEH (X : Cx) (e : Expr) (t : TE) : Prop where
  run : ∀ (pins : List (Addr × Obj)) (s : Shared) (σ : L2.St) (H : Hp) (Q : VK), Inv X pins σ H s → t σ H Q →
    wpAny (model X.prog X.w) X.A (eval e X.env) (fun u s' => EP X pins σ Q u s' ∧ ∀ x w, Holds X s x w → Holds X s' x w) X.xe s
structure PAH (X : Cx) (es : List Expr) (t : TA) : Prop where
  run : ∀ (pos : Pos) (pins : List (Addr × Obj)) (s : Shared) (σ : L2.St) (H : Hp) (Q : List V → Hp → Prop), Inv X pins σ H s → t σ H Q →
    wpAny (model X.prog X.w) X.A (spliced (backTo pos (starEach es X.env))) (fun us s' => AP X pins σ Q us s' ∧ ∀ x w, Holds X s x w → Holds X s' x w) X.xe s
section
variable {X : Cx} {a b e : Expr} {es : List Expr} {ta tb te : TE} {tl : TA} {pos p : Pos}
theorem peh_int {n : Int} {j : Nat} : PEH X (.Constant (.int n) j pos) (tC (.int n)) :=
  ⟨fun pins s σ H Q I q => wpAny_Constant_int ⟨⟨.int n, H, I.tok _, ⟨_, rfl⟩, q⟩, fun x w h => h.up fun _ _ z => z⟩⟩
theorem peh_local {i : Nat} {x : Str} (hN : X.N[i]? = some x) (hv : X.env.scope.names.lookup x = some .local) (hd : (x == ("__debug__" : Str)) = false := by decide) : PEH X (.Name x pos) (tVar i) := by
  constructor
  intro pins s σ H Q I h
  obtain ⟨v, hσ, q⟩ := h
  obtain ⟨m, hn, hl⟩ := I.loc
  obtain ⟨u, r, l⟩ := hl i x _ hN hσ (.inl hv)
  rcases l with ⟨hk, hm⟩ | ⟨hk, _⟩
  · exact wpAny_Name (wpAny_loadName_local I.ok.kind hk hn hm ⟨⟨v, H, I, r, q⟩, fun _ _ z => z⟩) hd
  · have hv' : X.env.kindOf x = some .local := hv
    rw [hv'] at hk
    rcases hk with hk | hk <;> cases hk
theorem peh_add (ha : PEH X a ta) (hb : PEH X b tb) : PEH X (.BinOp a .Add b pos) (tOp (rI0 fun i j => .int (i + j)) ta tb) := by
  constructor
  intro pins s σ H Q I h
  refine wpAny_BinOp (thn (ha.run pins s σ H _ I h) ?_)
  rintro u s1 ⟨⟨x, H1, I1, r1, q1⟩, k1⟩
  refine thn (hb.run pins s1 σ H1 _ I1 q1) ?_
  rintro w s2 ⟨⟨y, H2, I2, r2, i, j, rfl, rfl, q⟩, k2⟩
  obtain ⟨t, rfl⟩ := r1
  obtain ⟨t', rfl⟩ := r2
  exact PyProof.Rows.add_int ⟨⟨.int (i + j), H2, I2.tok _, ⟨_, rfl⟩, q⟩, fun x w h => (k2 x w (k1 x w h)).up fun _ _ z => z⟩
theorem pah_nil : PAH X [] tNil := ⟨fun _ _ _ _ H Q I h => Calls.spliced_nil ⟨⟨[], H, I, .nil, h⟩, fun _ _ z => z⟩⟩
theorem pah_cons (ha : PEH X e te) (hr : PAH X es tl) (hs : starEach (e :: es) X.env = (false, eval e X.env) :: starEach es X.env := by rfl) : PAH X (e :: es) (tCons te tl) := by
  constructor
  intro pos pins s σ H Q I h
  rw [hs]
  show wpAny _ _ (spliced ((false, eval e X.env) :: backTo pos (starEach es X.env))) _ _ s
  refine Calls.spliced_cons (thn (ha.run pins s σ H _ I h) ?_)
  rintro w s1 ⟨⟨x, H1, I1, r1, q1⟩, k1⟩
  refine thn (hr.run pos pins s1 σ H1 _ I1 q1) ?_
  rintro us s2 ⟨⟨xs, H2, I2, r2, q2⟩, k2⟩
  exact ⟨⟨x :: xs, H2, I2, .cons r1 r2, q2⟩, fun x w h => k2 x w (k1 x w h)⟩
theorem peh_call {k : Nat} {f : Addr} {sp : Sp} {x : Str} {E : XK} (F : FnR X.prog X.w X.K X.mg X.base CX0 k f sp) (hr : Room k X.A) (hg : Gl X x) (hm : X.mg x = some (.ref f)) (hk : PySem.W.keepIn X.K (.ref f) = true)
    (ha : PAH X (e :: es) tl) (hdb : (x == ("__debug__" : Str)) = false := by decide) (he : starEach (e :: es) X.env = (false, eval e X.env) :: starEach es X.env := by rfl) (hpl : (backTo pos (starEach es X.env)).any (·.1) = false := by rfl) :
    PEH X (.Call (.Name x p) (e :: es) [] pos) (tCall sp [] E tl) := by
  constructor
  intro pins s σ H Q I h
  refine wpAny_Call_Name_kw (ld_glob I hg hm ?_ hdb)
  refine PySem.W.callWith_K (h₀ := X.base) I.ok.mod.kin hk (thn (ha.run pos pins s σ H _ I h) ?_) he hpl
  rintro us s1 ⟨⟨vs, H1, I1, r, q⟩, k1⟩
  rw [List.append_nil] at q
  refine ⟨I1.kIn, wpAny_call (codeAny_mono (F X.A X.stack s1 H1 us vs Q E hr I1.env0 r q) fun r s' hq => ?_)⟩
  cases r with
  | error e => exact pass0 pins σ H1 s1 e s' I1 hq
  | ok fl =>
    cases fl with
    | ret w =>
      have hq' : CE X.stack X.prog X.w H1 s1 Q w s' := hq
      obtain ⟨v, H', os, bare, un, hok, rv, q'⟩ := id hq'
      exact ⟨I1.after hq', fun x w h => (k1 x w h).at' fun o e => un.any e I1.free (by simp)⟩
    | next => exact False.elim hq
    | brk => exact False.elim hq
    | cont => exact False.elim hq
end
/-- a local name that holds an int -/
theorem name_int {X : Cx} {pins : List (Addr × Obj)} {σ : L2.St} {H : Hp} {s : Shared} {i : Nat} {x : Str} {n : Int} {pos : Pos} {Q E : Value → Shared → Prop} (hN : X.N[i]? = some x) (hv : X.env.scope.names.lookup x = some .local) (I : Inv X pins σ H s)
    (hσ : σ[i]? = some (some (.int n))) (q : ∀ t, Q (.int n t) s) (hd : (x == ("__debug__" : Str)) = false := by decide) : wpAny (model X.prog X.w) X.A (eval (.Name x pos) X.env) Q E s := by
  obtain ⟨m, hn, hl⟩ := I.loc
  obtain ⟨u, r, l⟩ := hl i x _ hN hσ (.inl hv)
  obtain ⟨t, rfl⟩ := r
  rcases l with ⟨hk, hm⟩ | ⟨hk, _⟩
  · exact wpAny_Name (wpAny_loadName_local I.ok.kind hk hn hm (q t)) hd
  · have hv' : X.env.kindOf x = some .local := hv
    rw [hv'] at hk
    rcases hk with hk | hk <;> cases hk
/-- a list of texts of unlike tokens, all below b -/
def TxtsB (b : Nat) (H : Hp) (a : Addr) (cs : List Str) : Prop :=
  ∃ (its : List Value) (n m k : Nat), H a = some (.frz { cls := .type "list", data := .seq its.toArray n } (.lst (cs.map V.str))) ∧ TkL m k cs its ∧ 1 ≤ m ∧ k ≤ b
theorem TxtsB.txts {b : Nat} {H : Hp} {a : Addr} {cs : List Str} (h : TxtsB b H a cs) : TxtsAt H a cs := by
  obtain ⟨its, n, m, k, e, t, l, _⟩ := h
  exact ⟨its, n, m, k, e, t, l⟩
theorem TxtsB.same {b : Nat} {H H' : Hp} {a : Addr} {cs : List Str} (h : TxtsB b H a cs) (e : H' a = H a) : TxtsB b H' a cs := by
  obtain ⟨its, n, m, k, e1, r⟩ := h
  exact ⟨its, n, m, k, e.trans e1, r⟩
/-- ('once', a), its text's token below b -/
def OnceB (b : Nat) (H : Hp) (p : Addr) (a : Str) : Prop :=
  ∃ (n : Nat) (t0 t : Tok), H p = some (.frz { cls := .type "tuple", data := .seq #[.str "once" t0, .str a t] n } (.tup [.str "once", .str a])) ∧ t ≠ 0 ∧ t < b
/-- way, one, two = ..; if way == 2: ..; cut = ('cut', ..); return [.., .., (), .., .., cut][way] -/
def tSix (iw io it ic ig : Nat) (t1 ti ti2 tc : TE) (t0 : TS) : TS := fun D σ H => t1 σ H fun x H1 => ∃ (n : Int) (a : Addr) (cs : List Str) (b : Nat), x = .int n ∧ 0 ≤ n ∧ n < 6 ∧ σ[ig]? = some (some (.ref a)) ∧ cs.length ≤ 1000 ∧ TxtsB b H1 a cs ∧
  ti σ H1 fun y H2 => ∃ (i : Int) (c : Str), y = .int i ∧ H2 a = H1 a ∧ 0 ≤ i ∧ cs[i.toNat]? = some c ∧
  ti2 σ H2 fun y2 H3 => ∃ (j : Int) (d : Str), y2 = .int j ∧ H3 a = H2 a ∧ 0 ≤ j ∧ cs[j.toNat]? = some d ∧
  (n = 2 → t0 { D with nx := fun _ _ => False } (((σ.set iw (some (.int n))).set io (some (.str c))).set it (some (.str d))) H3) ∧
  (n ≠ 2 → tc (((σ.set iw (some (.int n))).set io (some (.str c))).set it (some (.str d))) H3 fun z H4 => ∃ m : Int, z = .int m ∧ ∀ q, H4 q = none →
    (n = 5 → D.rt (.ref q) (upd H4 q (.tup [.str "cut", .int m]))) ∧ ∀ p, p ≠ q → H4 p = none →
    (n = 0 → D.rt (.ref p) (upd (upd H4 q (.tup [.str "cut", .int m])) p (.tup [.str "lower"]))) ∧
    (n = 1 → ∀ H6, SwapAt H6 p c d → (∀ b', b' ≠ p → H6 b' = (upd H4 q (.tup [.str "cut", .int m])) b') → D.rt (.ref p) H6) ∧
    (n = 3 → D.rt (.ref p) (upd (upd H4 q (.tup [.str "cut", .int m])) p (.tup [.str "lead", .str c]))) ∧
    (n = 4 → ∀ H6, OnceB b H6 p c → (∀ b', b' ≠ p → H6 b' = (upd H4 q (.tup [.str "cut", .int m])) b') → D.rt (.ref p) H6))
theorem TkL.got {n m i : Nat} {c : Str} {t : Nat} {cs : List Str} {us : List Value} (h : TkL n m cs us) (e1 : cs[i]? = some c) (e2 : us[i]? = some (.str c t)) : n ≤ t ∧ t < m := by
  obtain ⟨t', e3, l1, l2⟩ := h.get e1
  rw [e2] at e3
  cases e3
  exact ⟨l1, l2⟩
/-- s' is s with new objects and tokens -/
structure Nw (X : Cx) (s s' : Shared) : Prop where
  k : ∀ b u, s.heap.get? b = some u → s'.heap.get? b = some u
  sz : s.heap.objs.size ≤ s'.heap.objs.size
  eq : s' = { s with heap := s'.heap, toks := s'.toks }
theorem Nw.inv {X : Cx} {s s' : Shared} (n : Nw X s s') {pins : List (Addr × Obj)} {σ : L2.St} {H : Hp} (I : Inv X pins σ H s) : Inv X pins σ H s' := by
  rw [n.eq]
  exact I.kept n.k
theorem Nw.trans {X : Cx} {s s' s'' : Shared} (a : Nw X s s') (b : Nw X s' s'') : Nw X s s'' := ⟨fun c u z => b.k c u (a.k c u z), Nat.le_trans a.sz b.sz, by
  have e := b.eq
  rw [a.eq] at e
  exact e⟩
theorem Nw.push {X : Cx} {s : Shared} {o : Obj} {t : Nat} : Nw X s { s with heap := s.heap.push o, toks := t } := ⟨fun _ _ z => Heap.get?_push_of_some _ z, by show _ ≤ (s.heap.push o).objs.size; rw [Heap.size_push]; exact Nat.le_succ _, rfl⟩
def tupO (us : List Value) : Obj := { cls := .type "tuple", data := .seq us.toArray }
section
variable {X : Cx} {s : Shared} {R E : Value → Shared → Prop} {w : Str} {j k : Nat} {c p a b : Pos} {x y : Str} {u v : Value}
theorem tup_w1 (hst : starEach [.Constant (.str w) j c] X.env = [(false, eval (.Constant (.str w) j c) X.env)]) (fin : ∀ s' t, Nw X s s' → s'.heap.get? s.heap.objs.size = some (tupO [.str w t]) → R (.ref s.heap.objs.size) s') :
    wpAny (model X.prog X.w) X.A (eval (.Tuple [.Constant (.str w) j c] k p) X.env) R E s := by
  refine Tuple_ ?_
  rw [hst]
  show wpAny _ _ (spliced [(false, eval (.Constant (.str w) j c) X.env)]) _ _ _
  exact Calls.spliced_cons (Calls.Constant_str (Calls.spliced_nil (wpAny_newTuple (fin _ _ .push (Heap.get?_push_size _ rfl)) (by show 1 ≤ sizeLine; decide))))
theorem tup_w0 (fin : ∀ s', Nw X s s' → R (.ref s.heap.objs.size) s') : wpAny (model X.prog X.w) X.A (eval (.Tuple [] k p) X.env) R E s :=
  Tuple_ (Calls.spliced_nil (wpAny_newTuple (fin _ .push) (by show 0 ≤ sizeLine; decide)))
theorem tup_w2 {pins : List (Addr × Obj)} {σ : L2.St} {H : Hp} (I : Inv X pins σ H s) (K : Holds X s x u) (hd : (x == ("__debug__" : Str)) = false) (hst : starEach [.Constant (.str w) j c, .Name x a] X.env = [(false, eval (.Constant (.str w) j c) X.env), (false, eval (.Name x a) X.env)])
    (fin : ∀ s' t, Nw X s s' → s'.heap.get? s.heap.objs.size = some (tupO [.str w t, u]) → R (.ref s.heap.objs.size) s') :
    wpAny (model X.prog X.w) X.A (eval (.Tuple [.Constant (.str w) j c, .Name x a] k p) X.env) R E s := by
  refine Tuple_ ?_
  rw [hst]
  show wpAny _ _ (spliced ((false, eval (.Constant (.str w) j c) X.env) :: [(false, eval (.Name x a) X.env)])) _ _ _
  exact Calls.spliced_cons (Calls.Constant_str (Calls.spliced_cons ((K.tok _).load (I.tok _) (Calls.spliced_nil (wpAny_newTuple (fin _ _ .push (Heap.get?_push_size _ rfl)) (by show 2 ≤ sizeLine; decide))) hd)))
theorem tup_w3 {pins : List (Addr × Obj)} {σ : L2.St} {H : Hp} (I : Inv X pins σ H s) (K : Holds X s x u) (K2 : Holds X s y v) (hd : (x == ("__debug__" : Str)) = false) (hd2 : (y == ("__debug__" : Str)) = false)
    (hst : starEach [.Constant (.str w) j c, .Name x a, .Name y b] X.env = [(false, eval (.Constant (.str w) j c) X.env), (false, eval (.Name x a) X.env), (false, eval (.Name y b) X.env)])
    (fin : ∀ s' t, Nw X s s' → s'.heap.get? s.heap.objs.size = some (tupO [.str w t, u, v]) → R (.ref s.heap.objs.size) s') :
    wpAny (model X.prog X.w) X.A (eval (.Tuple [.Constant (.str w) j c, .Name x a, .Name y b] k p) X.env) R E s := by
  refine Tuple_ ?_
  rw [hst]
  show wpAny _ _ (spliced ((false, eval (.Constant (.str w) j c) X.env) :: (false, eval (.Name x a) X.env) :: [(false, eval (.Name y b) X.env)])) _ _ _
  exact Calls.spliced_cons (Calls.Constant_str (Calls.spliced_cons ((K.tok _).load (I.tok _) (Calls.spliced_cons ((K2.tok _).load (I.tok _) (Calls.spliced_nil (wpAny_newTuple (fin _ _ .push (Heap.get?_push_size _ rfl)) (by show 3 ≤ sizeLine; decide))) hd2)) hd)))
end
/-- [('lower',), ('swap', one, two), (), ('lead', one), ('once', one), cut][way] -/
theorem six_ret {X : Cx} {pins : List (Addr × Obj)} {σ : L2.St} {H : Hp} {s : Shared} {R : Value → Shared → Prop} {iw ic : Nat} {wx ox tx cx : Str} {k2 k3 k4 k5 k6 : Nat} {j2 j3 j4 j5 : Nat} {d1 d2 d3 d4 d5 d6 d7 d8 d9 d10 d11 d12 d13 d14 d15 d16 d17 : Pos} {c d : Str} {t t2 : Tok} {n : Int} {q : Addr}
    (hw : X.N[iw]? = some wx) (hcu : X.N[ic]? = some cx) (lw : X.env.scope.names.lookup wx = some .local) (lc : X.env.scope.names.lookup cx = some .local) (I : Inv X pins σ H s) (Ko : Holds X s ox (.str c t)) (Kt : Holds X s tx (.str d t2))
    (sw : σ[iw]? = some (some (.int n))) (sc : σ[ic]? = some (some (.ref q))) (n0 : 0 ≤ n) (n6 : n < 6) (ne2 : n ≠ 2)
    (dw : (wx == ("__debug__" : Str)) = false) (dO : (ox == ("__debug__" : Str)) = false) (dt : (tx == ("__debug__" : Str)) = false) (dc : (cx == ("__debug__" : Str)) = false)
    (hs1 : starEach [.Constant (.str "lower") j2 d1] X.env = [(false, eval (.Constant (.str "lower") j2 d1) X.env)])
    (hs2 : starEach [.Constant (.str "swap") j3 d3, .Name ox d4, .Name tx d5] X.env = [(false, eval (.Constant (.str "swap") j3 d3) X.env), (false, eval (.Name ox d4) X.env), (false, eval (.Name tx d5) X.env)])
    (hs3 : starEach [.Constant (.str "lead") j4 d8, .Name ox d9] X.env = [(false, eval (.Constant (.str "lead") j4 d8) X.env), (false, eval (.Name ox d9) X.env)])
    (hs4 : starEach [.Constant (.str "once") j5 d11, .Name ox d12] X.env = [(false, eval (.Constant (.str "once") j5 d11) X.env), (false, eval (.Name ox d12) X.env)])
    (hs6 : starEach [.Tuple [.Constant (.str "lower") j2 d1] k2 d2, .Tuple [.Constant (.str "swap") j3 d3, .Name ox d4, .Name tx d5] k3 d6, .Tuple [] k4 d7, .Tuple [.Constant (.str "lead") j4 d8, .Name ox d9] k5 d10, .Tuple [.Constant (.str "once") j5 d11, .Name ox d12] k6 d13, .Name cx d14] X.env =
      [(false, eval (.Tuple [.Constant (.str "lower") j2 d1] k2 d2) X.env), (false, eval (.Tuple [.Constant (.str "swap") j3 d3, .Name ox d4, .Name tx d5] k3 d6) X.env), (false, eval (.Tuple [] k4 d7) X.env), (false, eval (.Tuple [.Constant (.str "lead") j4 d8, .Name ox d9] k5 d10) X.env), (false, eval (.Tuple [.Constant (.str "once") j5 d11, .Name ox d12] k6 d13) X.env), (false, eval (.Name cx d14) X.env)])
    (pix : PlainIx (.Name wx d16))
    (f5 : n = 5 → ∀ s', Inv X pins σ H s' → R (.ref q) s')
    (f0 : n = 0 → ∀ p s', H p = none → Inv X pins σ (upd H p (.tup [.str "lower"])) s' → R (.ref p) s')
    (f1 : n = 1 → ∀ p t0 s', H p = none → Inv X pins σ (upd H p (.frz (tupO [.str "swap" t0, .str c t, .str d t2]) (.tup [.str "swap", .str c, .str d]))) s' → R (.ref p) s')
    (f3 : n = 3 → ∀ p s', H p = none → Inv X pins σ (upd H p (.tup [.str "lead", .str c])) s' → R (.ref p) s')
    (f4 : n = 4 → ∀ p t0 s', H p = none → Inv X pins σ (upd H p (.frz (tupO [.str "once" t0, .str c t]) (.tup [.str "once", .str c]))) s' → R (.ref p) s') :
    wpAny (model X.prog X.w) X.A (eval (.Subscript (.List [.Tuple [.Constant (.str "lower") j2 d1] k2 d2, .Tuple [.Constant (.str "swap") j3 d3, .Name ox d4, .Name tx d5] k3 d6, .Tuple [] k4 d7, .Tuple [.Constant (.str "lead") j4 d8, .Name ox d9] k5 d10, .Tuple [.Constant (.str "once") j5 d11, .Name ox d12] k6 d13, .Name cx d14] d15) (.Name wx d16) d17) X.env) R X.xe s := by
  refine Subscript_ (wpAny_List_spliced ?_)
  rw [hs6]
  show wpAny _ _ (spliced ((false, eval (.Tuple [.Constant (.str "lower") j2 d1] k2 d2) X.env) :: (false, eval (.Tuple [.Constant (.str "swap") j3 d3, .Name ox d4, .Name tx d5] k3 d6) X.env) :: (false, eval (.Tuple [] k4 d7) X.env) :: (false, eval (.Tuple [.Constant (.str "lead") j4 d8, .Name ox d9] k5 d10) X.env) :: (false, eval (.Tuple [.Constant (.str "once") j5 d11, .Name ox d12] k6 d13) X.env) :: [(false, eval (.Name cx d14) X.env)])) _ _ _
  refine Calls.spliced_cons (tup_w1 hs1 fun s1 tk1 N1 g1 => ?_)
  refine Calls.spliced_cons (tup_w3 (N1.inv I) (Ko.up N1.k) (Kt.up N1.k) dO dt hs2 fun s2 tk2 N2 g2 => ?_)
  have M2 := N1.trans N2
  refine Calls.spliced_cons (tup_w0 fun s3 N3 => ?_)
  have M3 := M2.trans N3
  refine Calls.spliced_cons (tup_w2 (M3.inv I) (Ko.up M3.k) dO hs3 fun s4 tk4 N4 g4 => ?_)
  have M4 := M3.trans N4
  refine Calls.spliced_cons (tup_w2 (M4.inv I) (Ko.up M4.k) dO hs4 fun s5 tk5 N5 g5 => ?_)
  have M5 := M4.trans N5
  refine Calls.spliced_cons (name_ref hcu lc (M5.inv I) sc (Calls.spliced_nil ⟨by show 6 ≤ sizeLine; decide, ?_⟩) dc)
  have gl : (s5.heap.push { cls := .type "list", data := .seq [Value.ref s.heap.objs.size, .ref s1.heap.objs.size, .ref s2.heap.objs.size, .ref s3.heap.objs.size, .ref s4.heap.objs.size, .ref q].toArray }).get? s5.heap.objs.size = some { cls := .type "list", data := .seq [Value.ref s.heap.objs.size, .ref s1.heap.objs.size, .ref s2.heap.objs.size, .ref s3.heap.objs.size, .ref s4.heap.objs.size, .ref q].toArray } := Heap.get?_push_size _ rfl
  have N6 : Nw X s5 { s5 with heap := s5.heap.push { cls := .type "list", data := .seq [Value.ref s.heap.objs.size, .ref s1.heap.objs.size, .ref s2.heap.objs.size, .ref s3.heap.objs.size, .ref s4.heap.objs.size, .ref q].toArray } } := .push
  generalize hs6' : ({ s5 with heap := s5.heap.push { cls := .type "list", data := .seq [Value.ref s.heap.objs.size, .ref s1.heap.objs.size, .ref s2.heap.objs.size, .ref s3.heap.objs.size, .ref s4.heap.objs.size, .ref q].toArray } } : Shared) = s6 at N6 ⊢
  replace gl : s6.heap.get? s5.heap.objs.size = some { cls := .type "list", data := .seq [Value.ref s.heap.objs.size, .ref s1.heap.objs.size, .ref s2.heap.objs.size, .ref s3.heap.objs.size, .ref s4.heap.objs.size, .ref q].toArray } := by rw [← hs6']; exact gl
  clear hs6'
  have M6 := M5.trans N6
  have lst : s6.heap.IsList s5.heap.objs.size #[Value.ref s.heap.objs.size, .ref s1.heap.objs.size, .ref s2.heap.objs.size, .ref s3.heap.objs.size, .ref s4.heap.objs.size, .ref q] := ⟨_, gl, rfl, _, rfl⟩
  refine name_int hw lw (M6.inv I) sw (fun tw => ?_) dw
  have key : ∀ {p : Addr}, s.heap.objs.size ≤ p → H p = none := fun l => I.hok.fresh l
  have lay : ∀ {p : Addr} {o : HO}, s.heap.objs.size ≤ p → ObjOk X.prog X.w (upd H p o) s6.heap p o → Inv X pins σ (upd H p o) s6 := fun {p o} l w => by
    have z := I.laid (t' := s6.toks) (h' := s6.heap) M6.k l w
    rw [M6.eq]
    exact z
  have nn5 : n = 0 ∨ n = 1 ∨ n = 3 ∨ n = 4 ∨ n = 5 := by omega
  have l2 : 1 ≤ sizeLine ∧ 2 ≤ sizeLine ∧ 3 ≤ sizeLine := by decide
  rcases nn5 with rfl | rfl | rfl | rfl | rfl
  · refine item_listR lst (by decide) (by decide) (x := .ref s.heap.objs.size) rfl (f0 rfl _ _ (key (Nat.le_refl _)) (lay (Nat.le_refl _) ⟨l2.1, [.str "lower" tk1], .cons ⟨_, rfl⟩ .nil, ⟨_, ((((N2.trans N3).trans N4).trans N5).trans N6).k _ _ g1, rfl, _, rfl⟩⟩)) (pix _ _)
  · refine item_listR lst (by decide) (by decide) (x := .ref s1.heap.objs.size) rfl (f1 rfl _ tk2 _ (key N1.sz) (lay N1.sz ?_)) (pix _ _)
    have g := (((N3.trans N4).trans N5).trans N6).k _ _ g2
    exact ⟨g, l2.2.2, [.str "swap" tk2, .str c t, .str d t2], .cons ⟨_, rfl⟩ (.cons ⟨_, rfl⟩ (.cons ⟨_, rfl⟩ .nil)), ⟨_, g, rfl, _, rfl⟩⟩
  · exact item_listR lst (by decide) (by decide) (x := .ref s3.heap.objs.size) rfl (f3 rfl _ _ (key M3.sz) (lay M3.sz ⟨l2.2.1, [.str "lead" tk4, .str c t], .cons ⟨_, rfl⟩ (.cons ⟨_, rfl⟩ .nil), ⟨_, (N5.trans N6).k _ _ g4, rfl, _, rfl⟩⟩)) (pix _ _)
  · refine item_listR lst (by decide) (by decide) (x := .ref s4.heap.objs.size) rfl (f4 rfl _ tk5 _ (key M4.sz) (lay M4.sz ?_)) (pix _ _)
    have g := N6.k _ _ g5
    exact ⟨g, l2.2.1, [.str "once" tk5, .str c t], .cons ⟨_, rfl⟩ (.cons ⟨_, rfl⟩ .nil), ⟨_, g, rfl, _, rfl⟩⟩
  · exact item_listR lst (by decide) (by decide) (x := .ref q) rfl (f5 rfl _ (M6.inv I)) (pix _ _)
set_option maxHeartbeats 8000000 in
theorem pss_six {X : Cx} {iw io it ic ig : Nat} {wx ox tx cx gx : Str} {e1 idx idx2 ec : Expr} {t1 ti ti2 tc : TE} {t0 : TS} {r0 : List Stmt} {k0 k1 k2 k3 k4 k5 k6 k7 : Nat} {j0 j1 j2 j3 j4 j5 : Nat}
    {a1 a2 a3 a4 a5 a6 a7 a8 a9 a10 b1 b2 b3 b4 c1 c2 c3 c4 d1 d2 d3 d4 d5 d6 d7 d8 d9 d10 d11 d12 d13 d14 d15 d16 d17 d18 : Pos} (hc : X.calm = true) (hN : X.N.Nodup)
    (hw : X.N[iw]? = some wx) (ho : X.N[io]? = some ox) (ht : X.N[it]? = some tx) (hcu : X.N[ic]? = some cx) (hg : X.N[ig]? = some gx) (n1 : iw ≠ io) (n2 : iw ≠ it) (n3 : io ≠ it) (n4 : ic ≠ iw) (n5 : ic ≠ io) (n6 : ic ≠ it)
    (lw : X.env.scope.names.lookup wx = some .local) (lo : X.env.scope.names.lookup ox = some .local) (lt : X.env.scope.names.lookup tx = some .local) (lc : X.env.scope.names.lookup cx = some .local) (lg : X.env.scope.names.lookup gx = some .local)
    (h1 : PE X e1 t1) (hi : PE X idx ti) (hi2 : PE X idx2 ti2) (p1 : PlainIx idx) (p2 : PlainIx idx2) (h0 : PSs X r0 t0) (hec : PEH X ec tc)
    (dw : (wx == ("__debug__" : Str)) = false) (dO : (ox == ("__debug__" : Str)) = false) (dt : (tx == ("__debug__" : Str)) = false) (dc : (cx == ("__debug__" : Str)) = false) (dg : (gx == ("__debug__" : Str)) = false)
    (hst : starEach [e1, .Subscript (.Name gx a1) idx a2, .Subscript (.Name gx a3) idx2 a4] X.env = [(false, eval e1 X.env), (false, eval (.Subscript (.Name gx a1) idx a2) X.env), (false, eval (.Subscript (.Name gx a3) idx2 a4) X.env)])
    (hsc : starEach [.Constant (.str "cut") j1 c1, ec] X.env = [(false, eval (.Constant (.str "cut") j1 c1) X.env), (false, eval ec X.env)])
    (hs1 : starEach [.Constant (.str "lower") j2 d1] X.env = [(false, eval (.Constant (.str "lower") j2 d1) X.env)])
    (hs2 : starEach [.Constant (.str "swap") j3 d3, .Name ox d4, .Name tx d5] X.env = [(false, eval (.Constant (.str "swap") j3 d3) X.env), (false, eval (.Name ox d4) X.env), (false, eval (.Name tx d5) X.env)])
    (hs3 : starEach [.Constant (.str "lead") j4 d8, .Name ox d9] X.env = [(false, eval (.Constant (.str "lead") j4 d8) X.env), (false, eval (.Name ox d9) X.env)])
    (hs4 : starEach [.Constant (.str "once") j5 d11, .Name ox d12] X.env = [(false, eval (.Constant (.str "once") j5 d11) X.env), (false, eval (.Name ox d12) X.env)])
    (hs6 : starEach [.Tuple [.Constant (.str "lower") j2 d1] k2 d2, .Tuple [.Constant (.str "swap") j3 d3, .Name ox d4, .Name tx d5] k3 d6, .Tuple [] k4 d7, .Tuple [.Constant (.str "lead") j4 d8, .Name ox d9] k5 d10, .Tuple [.Constant (.str "once") j5 d11, .Name ox d12] k6 d13, .Name cx d14] X.env =
      [(false, eval (.Tuple [.Constant (.str "lower") j2 d1] k2 d2) X.env), (false, eval (.Tuple [.Constant (.str "swap") j3 d3, .Name ox d4, .Name tx d5] k3 d6) X.env), (false, eval (.Tuple [] k4 d7) X.env), (false, eval (.Tuple [.Constant (.str "lead") j4 d8, .Name ox d9] k5 d10) X.env), (false, eval (.Tuple [.Constant (.str "once") j5 d11, .Name ox d12] k6 d13) X.env), (false, eval (.Name cx d14) X.env)])
    (hsw : swappedStores [.Tuple [.Name wx a5, .Name ox a6, .Name tx a7] k0 a8] (.Tuple [e1, .Subscript (.Name gx a1) idx a2, .Subscript (.Name gx a3) idx2 a4] k1 a9) X.env = pure (some [wx, ox, tx]))
    (hss : swapsWithSole [.Tuple [.Name wx a5, .Name ox a6, .Name tx a7] k0 a8] (.Tuple [e1, .Subscript (.Name gx a1) idx a2, .Subscript (.Name gx a3) idx2 a4] k1 a9) a10.line X.env = pure false)
    (hcs : swapsWith (.Tuple [.Constant (.str "cut") j1 c1, ec] k7 c2) (some (.Name cx c3)) c4.line X.env = pure false) (pix : PlainIx (.Name wx d16)) :
    PSs X [.Assign [.Tuple [.Name wx a5, .Name ox a6, .Name tx a7] k0 a8] (.Tuple [e1, .Subscript (.Name gx a1) idx a2, .Subscript (.Name gx a3) idx2 a4] k1 a9) a10,
      .If (.Compare (.Name wx b1) [.Eq] [.Constant (.int 2) j0 b2] b3) r0 [] b4,
      .Assign [.Name cx c3] (.Tuple [.Constant (.str "cut") j1 c1, ec] k7 c2) c4,
      .Return (some (.Subscript (.List [.Tuple [.Constant (.str "lower") j2 d1] k2 d2, .Tuple [.Constant (.str "swap") j3 d3, .Name ox d4, .Name tx d5] k3 d6, .Tuple [] k4 d7, .Tuple [.Constant (.str "lead") j4 d8, .Name ox d9] k5 d10, .Tuple [.Constant (.str "once") j5 d11, .Name ox d12] k6 d13, .Name cx d14] d15) (.Name wx d16) d17)) d18]
      (tSix iw io it ic ig t1 ti ti2 tc t0) := by
  constructor
  intro pins s σ H D I h
  refine wpAny_execs_cons ?_
  rw [exec_Assign_arm]
  refine wpAny_bind (wpAny_standAt ?_)
  rw [hss]
  refine wpAny_bind (wpAny_pure ?_)
  rw [if_neg (by decide)]
  refine wpAny_bind (Tuple_ ?_)
  rw [hst]
  show wpAny _ _ (spliced ((false, eval e1 X.env) :: (false, eval (.Subscript (.Name gx a1) idx a2) X.env) :: [(false, eval (.Subscript (.Name gx a3) idx2 a4) X.env)])) _ _ s
  refine Calls.spliced_cons (thn (h1.run pins s σ H _ I h) ?_)
  rintro u1 s1 ⟨x, H1, I1, r1, n, a, cs, b, rfl, hn0, hn6, hσ, hz, ⟨its, nn, m, k, hf, tk, hm, hkb⟩, h2⟩
  refine Calls.spliced_cons (pick_raw (n := nn) hg lg I1 hσ hi p1 tk hz h2 ?_ dg)
  rintro y H2 ⟨i, c, rfl, ha, h0', hcs', h3⟩
  refine ⟨i, c, rfl, ha.trans hf, h0', hcs', fun s2 t I2 e2 hmt _ => ?_⟩
  refine Calls.spliced_cons (pick_raw (n := nn) hg lg I2 hσ hi2 p2 tk hz h3 ?_ dg)
  rintro y2 H3 ⟨j, d, rfl, ha3, hj, hd, w2, wn⟩
  refine ⟨j, d, rfl, ha3.trans (ha.trans hf), hj, hd, fun s3 t2 I3 e3 hmt2 _ => Calls.spliced_nil ?_⟩
  obtain ⟨tn, rfl⟩ := r1
  refine wpAny_newObj_type ?_ (by show 3 ≤ sizeLine; decide)
  have I4 : Inv X pins σ H3 { s3 with heap := s3.heap.push { cls := .type "tuple", data := .seq [Value.int n tn, .str c t, .str d t2].toArray } } := I3.kept (t' := s3.toks) fun b o e => Heap.get?_push_of_some _ e
  rw [hsw]
  refine wpAny_bind (wpAny_pure ?_)
  show wpAny (model X.prog X.w) X.A (do rule "assign.swapped-stores"; let items ← unpackItems (.ref s3.heap.objs.size) 3 none; assignInOrder [fun v => bindName X.env tx v, fun v => bindName X.env ox v, fun v => bindName X.env wx v] items.reverse; pure Flow.next) _ _ _
  refine wpAny_bind (wpAny_rule (wpAny_bind (unpackItems_tuple (items := #[Value.int n tn, .str c t, .str d t2]) (I.ok.hd hc) (IsTup.new s3.heap _) fun g hx' => ?_)))
  have I5 := I4.kept (h' := g) (t' := s3.toks) fun b o e => hx' b o (Nat.ne_of_lt (Heap.lt_size e)) e
  show wpAny _ _ (assignInOrder [fun v => bindName X.env tx v, fun v => bindName X.env ox v, fun v => bindName X.env wx v] [Value.str d t2, .str c t, .int n tn] >>= fun _ => pure Flow.next) _ _ _
  refine wpAny_bind (assignInOrder_cons (wpAny_bindName (store_raw (v := V.str d) I5 hN ht lt ⟨t2, rfl⟩ fun s5 I6 K6 _ _ => ?_)))
  refine assignInOrder_cons (wpAny_bindName (store_raw (v := V.str c) I6 hN ho lo ⟨t, rfl⟩ fun s6 I7 K7 keep7 _ => ?_))
  refine assignInOrder_cons (wpAny_bindName (store_raw (v := V.int n) I7 hN hw lw ⟨tn, rfl⟩ fun s7 I8 _ keep8 _ => assignInOrder_nil (wpAny_pure ?_)))
  have neq : ∀ {p q : Nat} {z z' : Str}, X.N[p]? = some z → X.N[q]? = some z' → p ≠ q → z ≠ z' := fun e1 e2 ne e => ne (nodup_ix hN e1 (e ▸ e2))
  have Kt : Holds X s7 tx (.str d t2) := keep8 tx _ (neq ht hw (Ne.symm n2)) (keep7 tx _ (neq ht ho (Ne.symm n3)) K6)
  have Ko : Holds X s7 ox (.str c t) := keep8 ox _ (neq ho hw (Ne.symm n1)) K7
  rw [List.set_comm _ _ (Ne.symm n3), List.set_comm _ _ (Ne.symm n2), List.set_comm _ _ (Ne.symm n1)] at I8
  have hl : σ.length = X.N.length := I.len
  have bd : ∀ {p : Nat} {z : Str}, X.N[p]? = some z → p < σ.length := fun e => by rw [hl]; exact (List.getElem?_eq_some_iff.mp e).1
  have sw : (((σ.set iw (some (V.int n))).set io (some (.str c))).set it (some (.str d)))[iw]? = some (some (.int n)) := by
    rw [List.getElem?_set_ne (Ne.symm n2), List.getElem?_set_ne (Ne.symm n1), List.getElem?_set_self (bd hw)]
  have lσ : (((σ.set iw (some (V.int n))).set io (some (.str c))).set it (some (.str d))).length = σ.length := by simp
  generalize hS : ((σ.set iw (some (V.int n))).set io (some (V.str c))).set it (some (V.str d)) = σ' at *
  -- if way == 2
  refine wpAny_execs_cons (wpAny_If (test_int hw lw I8 sw ?_ dw))
  by_cases e0 : n = 2
  · have e : (n == 2) = true := by simp [e0]
    rw [e]
    refine thn (h0.run pins _ σ' H3 _ (I8.tok _) (w2 e0)) fun f s9 q => ?_
    cases f with
    | next => obtain ⟨_, _, _, z⟩ := q; exact z.elim
    | ret v => exact q
    | brk => exact q
    | cont => exact q
  have e : (n == 2) = false := by simp [e0]
  rw [e]
  refine wpAny_execs_nil ?_
  -- cut = ..
  refine wpAny_execs_cons (wpAny_Assign_Name (Tuple_ ?_) hcs)
  rw [hsc]
  show wpAny _ _ (spliced ((false, eval (.Constant (.str "cut") j1 c1) X.env) :: [(false, eval ec X.env)])) _ _ _
  refine Calls.spliced_cons (Calls.Constant_str (Calls.spliced_cons ?_))
  refine thn (hec.run pins _ σ' H3 _ ((I8.tok _).tok _) (wn e0)) ?_
  rintro uc s10 ⟨⟨z, H4, I10, rz, mm, rfl, fin⟩, kh⟩
  obtain ⟨tm, rfl⟩ := rz
  have Kt10 : Holds X s10 tx (.str d t2) := kh tx _ ((Kt.tok _).tok _)
  have Ko10 : Holds X s10 ox (.str c t) := kh ox _ ((Ko.tok _).tok _)
  refine Calls.spliced_nil (wpAny_newTuple ?_ (by show 2 ≤ sizeLine; decide))
  have nq : H4 s10.heap.objs.size = none := I10.hok.fresh (Nat.le_refl _)
  obtain ⟨f5, fp⟩ := fin _ nq
  have I11 : Inv X pins σ' (upd H4 s10.heap.objs.size (.tup [.str "cut", .int mm])) { s10 with heap := s10.heap.push { cls := .type "tuple", data := .seq [Value.str "cut" (s7.toks + 1), .int mm tm].toArray } } :=
    I10.laid (t' := s10.toks) (fun b o q => Heap.get?_push_of_some _ q) (Nat.le_refl _) ⟨by show 2 ≤ sizeLine; decide, [.str "cut" _, .int mm tm], .cons ⟨_, rfl⟩ (.cons ⟨_, rfl⟩ .nil), ⟨_, Heap.get?_push_size _ rfl, rfl, _, rfl⟩⟩
  generalize hq : s10.heap.objs.size = q at *
  have Kt11 := Kt10.up (s' := { s10 with heap := s10.heap.push { cls := .type "tuple", data := .seq [Value.str "cut" (s7.toks + 1), .int mm tm].toArray } }) fun b o z => Heap.get?_push_of_some _ z
  have Ko11 := Ko10.up (s' := { s10 with heap := s10.heap.push { cls := .type "tuple", data := .seq [Value.str "cut" (s7.toks + 1), .int mm tm].toArray } }) fun b o z => Heap.get?_push_of_some _ z
  refine store_raw (v := V.ref q) I11 hN hcu lc rfl fun s12 I12 _ keep12 _ => ?_
  have Kt12 : Holds X s12 tx (.str d t2) := keep12 tx _ (neq ht hcu (Ne.symm n6)) Kt11
  have Ko12 : Holds X s12 ox (.str c t) := keep12 ox _ (neq ho hcu (Ne.symm n5)) Ko11
  have scu : (σ'.set ic (some (V.ref q)))[ic]? = some (some (.ref q)) := List.getElem?_set_self (by rw [lσ]; exact bd hcu)
  have sw12 : (σ'.set ic (some (V.ref q)))[iw]? = some (some (.int n)) := by rw [List.getElem?_set_ne n4]; exact sw
  -- return [..][way]
  obtain ⟨mt1, mt2⟩ := tk.got hcs' e2
  obtain ⟨mu1, mu2⟩ := tk.got hd e3
  have t0 : t ≠ 0 := Nat.ne_of_gt (Nat.lt_of_lt_of_le hm mt1)
  have u0 : t2 ≠ 0 := Nat.ne_of_gt (Nat.lt_of_lt_of_le hm mu1)
  have tu : t = t2 → c = d := fun z => by subst z; exact tk.inj e2 e3
  have spl : ∀ {p : Addr}, (upd H4 q (.tup [V.str "cut", .int mm])) p = none → p ≠ q ∧ H4 p = none := fun {p} z => by
    have ne : p ≠ q := by rintro rfl; rw [upd_same] at z; cases z
    exact ⟨ne, by rw [upd_ne ne] at z; exact z⟩
  refine wpAny_execs_cons (wpAny_Return_some (six_ret hw hcu lw lc I12 Ko12 Kt12 sw12 scu hn0 hn6 e0 dw dO dt dc hs1 hs2 hs3 hs4 hs6 pix ?_ ?_ ?_ ?_ ?_))
  · exact fun e s' J => ⟨.ref q, _, _, J, rfl, f5 e⟩
  · intro e p s' hp J
    obtain ⟨ne, hp'⟩ := spl hp
    exact ⟨.ref p, _, _, J, rfl, (fp p ne hp').1 e⟩
  · intro e p tk0 s' hp J
    obtain ⟨ne, hp'⟩ := spl hp
    exact ⟨.ref p, _, _, J, rfl, (fp p ne hp').2.1 e _ ⟨0, tk0, t, t2, upd_same, t0, u0, tu⟩ fun b' hb' => upd_ne hb'⟩
  · intro e p s' hp J
    obtain ⟨ne, hp'⟩ := spl hp
    exact ⟨.ref p, _, _, J, rfl, (fp p ne hp').2.2.1 e⟩
  · intro e p tk0 s' hp J
    obtain ⟨ne, hp'⟩ := spl hp
    exact ⟨.ref p, _, _, J, rfl, (fp p ne hp').2.2.2 e _ ⟨0, tk0, t, upd_same, t0, Nat.lt_of_lt_of_le mt2 hkb⟩ fun b' hb' => upd_ne hb'⟩
end Pd

set_option maxHeartbeats 4000000
namespace Pd
open PySem PySem.Spec PyProof.Rows L2
/-! ### defs that tell a number below which no token is to come -/
abbrev SpU := List V → Hp → (Nat → VK) → Prop
def FnU (P : Program) (w : World) (K : PySem.W.Frag) (mg : Str → Option Value) (base : Heap) (k : Nat) (f : Addr) (sp : SpU) : Prop :=
  ∀ (A : Around) (outer : List Env) (s : Shared) (H : Hp) (us : List Value) (vs : List V) (Q : Nat → VK) (E : XK), Room k A → Env0 P w K mg base A outer s H → Vals vs us → sp vs H Q →
    codeAny (model P w) A (.call (.ref f) ⟨us, []⟩) (fun r s' => ∃ b, b ≤ s'.toks ∧ CR CX0 outer P w H s (Q b) E r s') s
theorem CR.mono {outer : List Env} {P : Program} {w : World} {H : Hp} {s s' : Shared} {Q Q' : VK} {E : XK} {r : Result} (h : CR CX0 outer P w H s Q E r s') (k : ∀ v H', Q v H' → Q' v H') : CR CX0 outer P w H s Q' E r s' := by
  cases r with
  | error e => exact h
  | ok fl =>
    cases fl with
    | ret u =>
      obtain ⟨v, H', a, b, c, d, e, q⟩ := (show CE outer P w H s Q u s' from h)
      exact (show CE outer P w H s Q' u s' from ⟨v, H', a, b, c, d, e, k v H' q⟩)
    | next => exact h
    | brk => exact h
    | cont => exact h
theorem FnU.fnR {P : Program} {w : World} {K : PySem.W.Frag} {mg : Str → Option Value} {base : Heap} {k : Nat} {f : Addr} {sp : SpU} (F : FnU P w K mg base k f sp) : FnR P w K mg base CX0 k f (fun vs H Q _ => sp vs H fun _ => Q) :=
  fun A outer s H us vs Q E hr e0 r h => codeAny_mono (F A outer s H us vs (fun _ => Q) E hr e0 r h) fun _ _ ⟨_, _, z⟩ => z
/-- a body that returns -/
structure PSsU (X : Cx) (sts : List Stmt) (t : L2.St → Hp → (Nat → VK) → Prop) : Prop where
  run : ∀ (pins : List (Addr × Obj)) (s : Shared) (σ : L2.St) (H : Hp) (Q : Nat → VK), Inv X pins σ H s → t σ H Q →
    wpAny (model X.prog X.w) X.A (execs sts X.env) (fun f s' => ∃ u, f = .ret u ∧ ∃ v σ' H' b, Inv X pins σ' H' s' ∧ RelV v u ∧ b ≤ s'.toks ∧ Q b v H') X.xe s
theorem fnU_of {P : Program} {w : World} {K : PySem.W.Frag} {mg : Str → Option Value} {base : Heap} {x qual : Str} {st : Stmt} {f : Addr} {fd : FuncData} {N ps : List Str} {k : Nat} {sp : SpU}
    (F : Fun K x qual st f fd) (S : FnScope N ps (defScope st))
    (hb : ∀ (kV doc pm : Value) (an : Option Addr) (cdv ct : Value) (us : List Value), us.length = ps.length → bindArgs (PySem.W.fnOf x qual (defArgs st) (defBody st) (defScope st) .none kV doc pm an cdv ct) ⟨us, []⟩ = pure (ps.zip us))
    (len : ∀ vs H Q, sp vs H Q → vs.length = ps.length)
    (hbody : ∀ (cdv : Value) (A : Around) (outer : List Env) (s : Shared) (H : Hp) (vs : List V) (Q : Nat → VK) (E : XK), Room k (A.deeper (envOfC qual (defScope st) s.heap.objs.size f cdv)) → sp vs H Q →
      ∃ t, PSsU (cxOf CX0 P w K mg base N qual (defScope st) f cdv A outer s H E) (defBody st) t ∧ t (start N vs) H Q) : FnU P w K mg base (k + 1) f sp := by
  obtain ⟨oc, od, kV, doc, pm, an, cdv, ct, osl, rfl, lk, hcd⟩ := F.ex
  intro A outer s H us vs Q E hr e0 r hsp
  have hl : us.length = ps.length := r.length.symm.trans (len _ _ _ hsp)
  have KX : K.In s.heap := e0.mod.kin.keeps fun b o e => (e0.bs b o e).1
  have lim : s.heap.NoLimit := e0.mod.nolimit.keeps fun b o e => (e0.bs b o e).1
  have hkind : ∀ y ∈ ps.zip us, (defScope st).names.lookup y.1 = some .local ∨ ((defScope st).names.lookup y.1 = some .cell ∧ ((cellsFrom (s.heap.objs.size + 1) (defScope st).names []).lookup y.1).isSome = true) := fun y hy => by
    rcases S.par y.1 (List.of_mem_zip hy).1 with q | q
    · exact .inl q
    · exact .inr ⟨q, PySem.W.cellsFrom_some _ _ _ (.inl q)⟩
  refine codeAny_call_function hr.depth (KX _ _ lk) rfl S.co S.gen rfl (PySem.W.codeRec_of KX hcd) (BindsTo.of_eq (hb kV doc pm an cdv ct us hl) _ _ _ _ ?_)
  refine wpAny_mono (wpAny_newFunctionEnv_cells S.kind hkind fun env he s1 x => (⟨he, x⟩ : env = _ ∧ InCallC s _ _ _ _ s1)) ?_ fun _ _ z => z
  rintro env s1 ⟨rfl, x⟩
  refine ⟨lim.keeps x.toInCall.keep, codeAny_func ?_⟩
  obtain ⟨t, he, hq⟩ := hbody cdv A outer s H vs Q E (hr.deeper _) hsp
  have I : Inv (cxOf CX0 P w K mg base N qual (defScope st) f cdv A outer s H E) [] (start N vs) H s1 := inv_start S hr.hd e0 (len _ _ _ hsp) r x
  refine wpAny_mono (he.run [] s1 _ H _ I hq) ?_ ?_
  · rintro fl s' ⟨u, rfl, v, σ', H', b, J, rv, lb, q⟩
    exact ⟨b, lb, (show CE outer P w H s (Q b) u s' from ⟨v, H', J.os, J.bare, J.base, J.hok, rv, q⟩)⟩
  · intro e s' h
    exact wpAny_mono h (fun _ _ h => ⟨0, Nat.zero_le _, h⟩) fun _ _ h => ⟨0, Nat.zero_le _, h⟩
/-- x = f(..), f tells a number: what follows may count on it -/
def tMark (i : Nat) (sp : SpU) (ta : TA) (u : Nat → TS) : TS := fun D σ H => ta σ H fun vs H1 => sp vs H1 fun b v H2 => u b D (σ.set i (some v)) H2
theorem pss_mark {X : Cx} {i k : Nat} {x y : Str} {f : Addr} {sp : SpU} {e : Expr} {es : List Expr} {ta : TA} {u : Nat → TS} {rest : List Stmt} {p p2 pos p3 : Pos} (hN : X.N.Nodup) (hi : X.N[i]? = some x) (hx : Loc X.env.scope x)
    (F : FnU X.prog X.w X.K X.mg X.base k f sp) (hr : Room k X.A) (hg : Gl X y) (hm : X.mg y = some (.ref f)) (hk : PySem.W.keepIn X.K (.ref f) = true) (ha : PA X (e :: es) ta) (hrest : ∀ b, PSsn b X rest (u b))
    (hs : swapsWith (.Call (.Name y p) (e :: es) [] pos) (some (.Name x p2)) p3.line X.env = pure false := by rfl) (hf : X.fn x = true ∨ X.env.scope.names.lookup x = some .local := by first | exact .inl rfl | exact .inr rfl | assumption)
    (hdb : (y == ("__debug__" : Str)) = false := by decide) (he : starEach (e :: es) X.env = (false, eval e X.env) :: starEach es X.env := by rfl) (hpl : (backTo pos (starEach es X.env)).any (·.1) = false := by rfl) :
    PSs X (.Assign [.Name x p2] (.Call (.Name y p) (e :: es) [] pos) p3 :: rest) (tMark i sp ta u) := by
  constructor
  intro pins s σ H D I h
  refine wpAny_execs_cons (wpAny_Assign_Name (wpAny_Call_Name_kw (ld_glob I hg hm ?_ hdb)) hs)
  refine PySem.W.callWith_K (h₀ := X.base) I.ok.mod.kin hk (thn (ha.run pos pins s σ H _ I h) ?_) he hpl
  rintro us s1 ⟨vs, H1, I1, r, q⟩
  refine ⟨I1.kIn, wpAny_call (codeAny_mono (F X.A X.stack s1 H1 us vs _ (fun _ _ _ => False) hr I1.env0 r q) fun r s' hq => ?_)⟩
  obtain ⟨b, lb, hq⟩ := hq
  cases r with
  | error e => exact pass0 pins σ H1 s1 e s' I1 hq
  | ok fl =>
    cases fl with
    | ret w =>
      obtain ⟨v, H', J, rv, q'⟩ := I1.after hq
      refine thk lb (store_ok (Q := fun _ s2 => Inv X pins (σ.set i (some v)) H' s2) J hN hi hx rv (fun s2 I2 => I2) hf) ?_
      exact fun _ s2 l2 I2 => (hrest b).run pins s2 _ H' D l2 I2 q'
    | next => exact False.elim hq
    | brk => exact False.elim hq
    | cont => exact False.elim hq
/-! ### letter = ..; return [letter, letter.upper(), .., .., ..] -/
def tFew (z : Str) (il : Nat) (tb t1 t2 t3 : TE) : L2.St → Hp → (Nat → VK) → Prop := fun σ H Q => tItemC z tb σ H fun v1 H1 => ∃ x1 : Str, v1 = .str x1 ∧ x1.length ≤ 1000 ∧
  t1 (σ.set il (some (.str x1))) H1 fun y1 H2 => ∃ c1 : Str, y1 = .str c1 ∧ t2 (σ.set il (some (.str x1))) H2 fun y2 H3 => ∃ c2 : Str, y2 = .str c2 ∧ t3 (σ.set il (some (.str x1))) H3 fun y3 H4 => ∃ c3 : Str, y3 = .str c3 ∧
    ∀ b p H5, H4 p = none → TxtsB b H5 p [x1, Txt.upper x1, c1, c2, c3] → (∀ b', b' ≠ p → H5 b' = H4 b') → Q b (.ref p) H5
theorem pss_few {X : Cx} {z : Str} {il : Nat} {lx : Str} {b1 e1 e2 e3 : Expr} {tb t1 t2 t3 : TE} {j1 : Nat} {a1 c1 d1 p1 q1 q2 q3 q4 d3 p3 : Pos} (hN : X.N.Nodup) (hl : X.N[il]? = some lx)
    (ll : X.env.scope.names.lookup lx = some .local) (h0 : PE X b1 tb) (s1 : PlainIxT b1) (h1 : PEF X e1 t1) (h2 : PEF X e2 t2) (h3 : PEF X e3 t3) (dl : (lx == ("__debug__" : Str)) = false)
    (hs1 : swapsWith (.Subscript (.Constant (.str z) j1 c1) b1 d1) (some (.Name lx a1)) p1.line X.env = pure false)
    (hst : starEach [.Name lx q1, .Call (.Attribute (.Name lx q2) "upper" q3) [] [] q4, e1, e2, e3] X.env =
      [(false, eval (.Name lx q1) X.env), (false, eval (.Call (.Attribute (.Name lx q2) "upper" q3) [] [] q4) X.env), (false, eval e1 X.env), (false, eval e2 X.env), (false, eval e3 X.env)])
    (hbase : attributeBase (.Name lx q2) "upper" X.env (eval (.Name lx q2) X.env) = eval (.Name lx q2) X.env) (hline : (q3.endLine == q4.line) = true) :
    PSsU X [.Assign [.Name lx a1] (.Subscript (.Constant (.str z) j1 c1) b1 d1) p1,
      .Return (some (.List [.Name lx q1, .Call (.Attribute (.Name lx q2) "upper" q3) [] [] q4, e1, e2, e3] d3)) p3] (tFew z il tb t1 t2 t3) := by
  constructor
  intro pins s σ H Q I h
  refine wpAny_execs_cons (wpAny_Assign_Name (thn ((pef_item h0 s1).run pins s σ H _ I h) ?_) hs1)
  rintro u1 t1' ⟨⟨v1, H1, I1, r1, x1, rfl, hx1, h'⟩, l1, y1, k1, rfl, k1a, k1b⟩
  obtain rfl : y1 = x1 := by obtain ⟨_, e⟩ := r1; injection e
  refine store_raw (v := V.str y1) I1 hN hl ll r1 fun t2' I2 K2 _ l2 => ?_
  refine wpAny_execs_cons (wpAny_Return_some (wpAny_List_spliced ?_))
  rw [hst]
  show wpAny _ _ (spliced ((false, eval (.Name lx q1) X.env) :: (false, eval (.Call (.Attribute (.Name lx q2) "upper" q3) [] [] q4) X.env) :: (false, eval e1 X.env) :: (false, eval e2 X.env) :: [(false, eval e3 X.env)])) _ _ _
  refine Calls.spliced_cons (K2.load I2 (Calls.spliced_cons ?_) dl)
  refine PySem.Call_method0 hbase hline (K2.load I2 ?_ dl)
  refine ⟨"str", _, F.plainAttrs_str, F.slot_str_upper, F.type_str_upper, typeIs_str _ _ _, (fun _ e => nomatch e), Calls.callWith_builtin rfl (PySem.evalArgs_none ?_)⟩
  have fit : Builtin.Str.tooLong (Txt.upper y1).length = false := PyProof.Rows.short24 (by have := PyProof.Rows.len_upper y1; omega)
  refine PySem.SC.upper fit (Calls.spliced_cons ?_)
  refine thn (h1.run pins _ _ H1 _ (I2.tok _) h') ?_
  rintro u3 t3' ⟨⟨w1, H2, I3, r3, c1', rfl, g2⟩, m1, z1, n1, rfl, n1a, n1b⟩
  obtain rfl : z1 = c1' := by obtain ⟨_, e⟩ := r3; injection e
  refine Calls.spliced_cons (thn (h2.run pins _ _ H2 _ I3 g2) ?_)
  rintro u4 t4' ⟨⟨w2, H3, I4, r4, c2', rfl, g3⟩, m2, z2, n2, rfl, n2a, n2b⟩
  obtain rfl : z2 = c2' := by obtain ⟨_, e⟩ := r4; injection e
  refine Calls.spliced_cons (thn (h3.run pins _ _ H3 _ I4 g3) ?_)
  rintro u5 t5' ⟨⟨w3, H4, I5, r5, c3', rfl, fin⟩, m3, z3, n3, rfl, n3a, n3b⟩
  obtain rfl : z3 = c3' := by obtain ⟨_, e⟩ := r5; injection e
  refine Calls.spliced_nil ⟨by show 5 ≤ sizeLine; decide, ?_⟩
  have tk : TkL (s.toks + 1) t5'.toks [y1, Txt.upper y1, z1, z2, z3] [.str y1 k1, .str (Txt.upper y1) t2'.toks, .str z1 n1, .str z2 n2, .str z3 n3] := by
    refine .cons (k := t2'.toks) k1a (Nat.lt_of_lt_of_le k1b l2) (.cons (k := t2'.toks + 1) (Nat.le_refl _) (Nat.lt_succ_self _) (.cons (k := t3'.toks) ?_ n1b (.cons (k := t4'.toks) ?_ n2b (.cons (k := t5'.toks) ?_ n3b (.nil (Nat.le_refl _))))))
    · exact Nat.le_of_succ_le n1a
    · exact Nat.le_of_succ_le n2a
    · exact Nat.le_of_succ_le n3a
  have new : H4 t5'.heap.objs.size = none := I5.hok.fresh (Nat.le_refl _)
  refine ⟨_, rfl, .ref t5'.heap.objs.size, σ.set il (some (V.str y1)), upd H4 t5'.heap.objs.size (.frz { cls := .type "list", data := .seq [Value.str y1 k1, .str (Txt.upper y1) t2'.toks, .str z1 n1, .str z2 n2, .str z3 n3].toArray } (.lst ([y1, Txt.upper y1, z1, z2, z3].map .str))), t5'.toks, ?_, rfl, Nat.le_refl _, ?_⟩
  · exact I5.laid (t' := t5'.toks) (fun b o q => Heap.get?_push_of_some _ q) (Nat.le_refl _) ⟨Heap.get?_push_size _ rfl, by show 5 ≤ sizeLine; decide, _, 0, tk.vals, Heap.get?_push_size _ rfl⟩
  · exact fin _ _ _ new ⟨_, 0, _, _, upd_same, tk, by omega, Nat.le_refl _⟩ fun b hb => upd_ne hb
end Pd

set_option maxHeartbeats 4000000
namespace Pd
open PySem PySem.Spec PyProof.Rows L2
/-! ### discard, of a set whose keys are a list -/
theorem perm_of_len {α : Type} [DecidableEq α] : ∀ {L ks : List α}, L.Nodup → (∀ k ∈ L, k ∈ ks) → ks.length ≤ L.length → ks.Perm L
  | [], ks, _, _, l => by
    rw [List.eq_nil_of_length_eq_zero (Nat.le_zero.mp l)]
  | a :: L, ks, nd, sub, l => by
    have ha := sub a (List.mem_cons_self ..)
    have p := List.perm_cons_erase ha
    obtain ⟨n1, n2⟩ := List.nodup_cons.mp nd
    have q : (ks.erase a).Perm L := perm_of_len n2 (fun k hk => (List.mem_erase_of_ne (by rintro rfl; exact n1 hk)).mpr (sub k (List.mem_cons_of_mem _ hk))) (by
      have := p.length_eq
      simp only [List.length_cons] at this l
      omega)
    exact p.trans (q.cons a)
theorem perm_at {α : Type} : ∀ {ks : List α} {i : Nat} {k : α}, ks[i]? = some k → (k :: ks.eraseIdx i).Perm ks
  | [], _, _, e => by simp at e
  | a :: ks, 0, k, e => by
    simp at e; subst e
    simp
  | a :: ks, i + 1, k, e => by
    have z := perm_at (ks := ks) (i := i) (k := k) (by simpa using e)
    rw [List.eraseIdx_cons_succ]
    exact (List.Perm.swap a k _).trans (z.cons a)
/-- membership, and a list without a key, or with one -/
def hasK {T : Type} [DecidableEq T] (L : List T) : T → Bool := fun j => decide (j ∈ L)
def offK {T : Type} [DecidableEq T] (L : List T) (k : T) : List T := L.erase k
def addK {T : Type} [DecidableEq T] (L : List T) (k : T) : List T := if k ∈ L then L else L ++ [k]
section
variable {T : Type} [DecidableEq T] {L : List T} {j k : T}
theorem offK_nodup (h : L.Nodup) : (offK L k).Nodup := h.erase k
theorem hasK_off (h : L.Nodup) : hasK (offK L k) j = (decide (j ≠ k) && hasK L j) := by
  unfold hasK offK
  rw [← Bool.decide_and]
  exact decide_eq_decide.mpr h.mem_erase_iff
theorem offK_len : (offK L k).length ≤ L.length := List.length_erase_le
theorem addK_nodup (h : L.Nodup) : (addK L k).Nodup := by
  unfold addK
  split
  · exact h
  · rename_i hk
    rw [List.nodup_append]
    refine ⟨h, by simp, fun x hx y hy => ?_⟩
    rw [List.mem_singleton.mp hy]
    rintro rfl
    exact hk hx
theorem hasK_add : hasK (addK L k) j = (hasK L j || decide (j = k)) := by
  unfold hasK addK
  split
  · rename_i hk
    by_cases e : j = k
    · subst e; simp [hk]
    · simp [e]
  · rw [← Bool.decide_or]
    exact decide_eq_decide.mpr (by rw [List.mem_append, List.mem_singleton])
theorem addK_len : (addK L k).length ≤ L.length + 1 := by
  unfold addK
  split
  · omega
  · simp
theorem addK_len' : (addK L k).length = if hasK L k = true then L.length else L.length + 1 := by
  unfold addK hasK
  by_cases hk : k ∈ L
  · rw [if_pos hk, if_pos (decide_eq_true hk)]
  · rw [if_neg hk, if_neg (by rw [decide_eq_false hk]; decide)]
    simp
end
section
variable {prog : Program} {w : World} {T : Type} [DecidableEq T] {knd : KeyKind prog w T}
/-- the keys of entries, one behind the other -/
inductive KsOf (knd : KeyKind prog w T) : List T → List (Int × Value) → Prop where
  | nil : KsOf knd [] []
  | cons {k : T} {e : Int × Value} {ks : List T} {l : List (Int × Value)} (h : knd.is k e.2 = true) (r : KsOf knd ks l) : KsOf knd (k :: ks) (e :: l)
theorem KsOf.of : ∀ {l : List (Int × Value)}, ElemsOf knd l → ∃ ks, KsOf knd ks l
  | [], _ => ⟨[], .nil⟩
  | e :: l, h => by
    obtain ⟨⟨k, hk, _⟩, _⟩ := h.head
    obtain ⟨ks, r⟩ := KsOf.of h.tail
    exact ⟨k :: ks, .cons hk r⟩
theorem KsOf.len : ∀ {ks : List T} {l : List (Int × Value)}, KsOf knd ks l → ks.length = l.length
  | _, _, .nil => rfl
  | _, _, .cons _ r => congrArg (· + 1) r.len
theorem KsOf.mem {k : T} : ∀ {ks : List T} {l : List (Int × Value)}, KsOf knd ks l → (k ∈ ks ↔ ∃ e ∈ l, knd.is k e.2 = true)
  | _, _, .nil => by simp
  | _, _, .cons (k := k0) (e := e) h r => by
    rw [List.mem_cons, r.mem]
    constructor
    · rintro (rfl | ⟨x, hx, hp⟩)
      · exact ⟨e, List.mem_cons_self .., h⟩
      · exact ⟨x, List.mem_cons_of_mem _ hx, hp⟩
    · rintro ⟨x, hx, hp⟩
      rcases List.mem_cons.mp hx with rfl | hx
      · exact .inl (knd.inj _ _ _ hp h)
      · exact .inr ⟨x, hx, hp⟩
theorem KsOf.erase : ∀ {ks : List T} {l : List (Int × Value)} (i : Nat), KsOf knd ks l → KsOf knd (ks.eraseIdx i) (l.eraseIdx i)
  | _, _, _, .nil => by simpa using KsOf.nil
  | _, _, 0, .cons h r => by simpa using r
  | _, _, i + 1, .cons h r => by simpa using KsOf.cons h (r.erase i)
theorem KsOf.at_ {k : T} : ∀ {ks : List T} {l : List (Int × Value)} {i : Nat} (hi : i < l.length), KsOf knd ks l → knd.is k (l[i]).2 = true → ks[i]? = some k
  | _, _, _, hi, .nil, _ => absurd hi (Nat.not_lt_zero _)
  | _, _, 0, hi, .cons h r, e => by
    have := knd.inj _ _ _ e h
    subst this; rfl
  | _, _, i + 1, hi, .cons h r, e => by
    simpa using r.at_ (i := i) (by simpa using hi) (by simpa using e)
theorem erase_list {α : Type} (xs : Array α) (i : Nat) : (SetTable.eraseAt xs i).toList = xs.toList.eraseIdx i := by
  unfold SetTable.eraseAt
  rw [Array.toList_append, Array.toList_extract, Array.toList_extract, List.eraseIdx_eq_take_drop_succ]
  simp [List.extract_eq_drop_take]
  rw [List.take_of_length_le (by simp)]
theorem ins_size {α : Type} (xs : Array α) (p : Nat) (x : α) : (SetTable.insertAt xs p x).size = xs.size + 1 := by
  unfold SetTable.insertAt
  simp only [Array.size_append, Array.size_push, Array.size_extract]
  omega
theorem ers_size {α : Type} (xs : Array α) (i : Nat) (hi : i < xs.size) : (SetTable.eraseAt xs i).size = xs.size - 1 := by
  rw [← Array.length_toList, erase_list, List.length_eraseIdx_of_lt (by simpa using hi), Array.length_toList]
theorem drop_fits {t : SetTable} {n i : Nat} (h : t.fits n = true) (hi : i < n) : (t.drop i).fits (n - 1) = true := by
  simp only [SetTable.fits, Bool.and_eq_true, beq_iff_eq, decide_eq_true_eq] at h ⊢
  obtain ⟨h1, h2⟩ := h
  have hp : i < t.place.size := by omega
  unfold SetTable.fill at h2
  unfold SetTable.drop SetTable.fill
  rw [Array.getElem?_eq_getElem hp]
  dsimp only
  rw [ers_size _ _ hp, ins_size]
  omega
variable {A : Around} {E : Value → Shared → Prop} {s : Shared} {a : Addr} {k : T} {key : Value}
theorem call_set_discard {L : List T} {Q : Value → Shared → Prop} (hkey : knd.is k key = true) (hsc : key.scannable = true) (hS : s.heap.SetOf knd a (hasK L) L.length) (nd : L.Nodup)
    (h : ∀ h', Heap.SameBut a s.heap h' → h'.SetOf knd a (hasK (offK L k)) (offK L k).length → Q .none { s with heap := h', toks := s.toks + 1 }) :
    wpAny (model prog w) A (call (.builtin "set.discard") [.ref a, key]) Q E s := by
  obtain ⟨o, es, ep, t, ho, hex, hd, hel, hmem, hb, hf, hn⟩ := id hS
  refine wpAny_call_entry F.slot_set_discard hS.typeIs F.entry_set_discard ?_ (F.args_set_discard_2 _ _)
  unfold Builtin.«set.discard» Builtin.Frozenset.oneOther
  simp only [List.isEmpty_nil, bind_assoc]
  unfold Builtin.Frozenset.addrOf Builtin.Frozenset.withSetAsKey setDiscard
  refine wpAny_bind (wpAny_pure ?_)
  try dsimp only
  refine wpAny_bind (wpAny_pure ?_)
  try dsimp only
  refine wpAny_bind (wpAny_tryCatch (wpAny_holding (wpAny_bind (knd.pyHash hkey ?_))))
  unfold setDiscardHashed setFind setFindIn
  refine wpAny_bind (wpAny_bind (wpAny_setState_of ho hd hf ?_))
  dsimp only
  rw [byScan_of hsc hb hel]
  simp only [↓reduceIte]
  refine wpAny_bind (wpAny_rule (wpAny_bind (wpAny_setScan_of hkey ho hd hf hel ?_)))
  obtain ⟨ks, K1⟩ := KsOf.of hel
  have P1 : ks.Perm L := perm_of_len nd (fun j hj => K1.mem.mpr ((hmem j).mp (decide_eq_true hj))) (by rw [K1.len, Array.length_toList, hn]; exact Nat.le_refl _)
  cases hr : List.findIdx? (fun e => knd.is k e.2) es.toList with
  | none =>
    dsimp only
    refine wpAny_pure (wpAny_pure ?_)
    have nk : k ∉ L := fun hk => by
      obtain ⟨e, he, hp⟩ := (hmem k).mp (decide_eq_true hk)
      have := List.findIdx?_eq_none_iff.mp hr e he
      rw [hp] at this; cases this
    have z := h s.heap (Heap.SameBut.refl a s.heap) (by unfold offK; rw [List.erase_of_not_mem nk]; exact hS)
    show wpAny _ _ (ret Value.none) _ _ _
    exact wpAny_pure ⟨_, rfl, z⟩
  | some i =>
    dsimp only
    obtain ⟨hi, hpi, _⟩ := List.findIdx?_eq_some_iff_getElem.mp hr
    have hi' : i < es.size := by simpa using hi
    refine wpAny_pure ?_
    dsimp only
    rw [Nat.zero_add]
    refine wpAny_bind (wpAny_setState_of ho hd hf ?_)
    dsimp only
    have ek := K1.at_ hi hpi
    obtain ⟨hik, ei⟩ := List.getElem?_eq_some_iff.mp ek
    have P2 : (ks.eraseIdx i).Perm (L.erase k) := by
      have p1 := perm_at ek
      have p2 := List.perm_cons_erase (P1.mem_iff.mp (ei ▸ List.getElem_mem hik))
      exact ((p1.trans P1).trans p2).cons_inv
    have K2 := K1.erase i
    have el := erase_list es i
    have sz : (SetTable.eraseAt es i).size = es.size - 1 := ers_size es i hi'
    have hel2 : ElemsOf knd (SetTable.eraseAt es i).toList := by
      rw [el]
      exact fun e he => hel e (List.mem_of_mem_eraseIdx he)
    have hm2 : ∀ j, decide (j ∈ L.erase k) = true ↔ ∃ e ∈ (SetTable.eraseAt es i).toList, knd.is j e.2 = true := fun j => by
      rw [decide_eq_true_eq, el, ← K2.mem, P2.mem_iff]
    refine wpAny_bind (wpAny_storeSet_of ho hd ?_ (fits_of_scanBound (Nat.lt_of_le_of_lt (by rw [sz]; omega) hb)))
    obtain ⟨ho1, hS1⟩ := SetOf_store (knd := knd) (t' := t.drop i) ho hex hd hel2 hm2 (by rw [sz]; omega) (by rw [sz]; exact drop_fits hf hi')
    refine wpAny_bind (wpAny_point (wpAny_pure ?_))
    have e2 : (SetTable.eraseAt es i).size = (L.erase k).length := by
      rw [← P2.length_eq, K2.len, ← el, Array.length_toList]
    rw [e2] at hS1
    show wpAny _ _ (ret Value.none) _ _ _
    exact wpAny_pure ⟨_, rfl, h _ (Heap.SameBut.update s.heap a _) hS1⟩
end
/-- a set of the keys of a list -/
def SetL (P : Program) (w : World) (a : Addr) (L : List Key) : HO := SetK P w a (hasK L) L.length
def rDiscL (P : Program) (w : World) : V → List V → Hp → VK → Prop := fun x xs H Q => ∃ (a : Addr) (k : Key) (L : List Key), x = V.ref a ∧ xs = [kV k] ∧ H a = some (SetL P w a L) ∧ L.Nodup ∧
  Q .non (upd H a (SetL P w a (offK L k)))
section
variable {X : Cx}
theorem mt_sdiscL : MtR X "set.discard" (rDiscL X.prog X.w) := by
  intro pins s σ H x xs v us Q I rx rxs h
  obtain ⟨a, k, L, rfl, rfl, ha, nd, q⟩ := h
  cases rx
  cases rxs with
  | cons ry rt =>
    cases rt
    refine call_set_discard (L := L) (kV_is ry) (key_scan ry) (setK_get I ha) nd fun h' sb new => ?_
    have he : ∃ u, h'.get? a = some u := by
      have ⟨o, _, _, _, ho, _⟩ := new
      exact ⟨o, ho⟩
    exact ⟨.non, upd H a (SetL X.prog X.w a (offK L k)), I.write (e := a) (t' := s.toks + 1) (by rw [ha]; trivial) (.inl rfl) (fun b u hb hu => (sb.2 b hb).trans hu) he (setK_new new), rfl, q⟩
end
end Pd

set_option maxHeartbeats 4000000
namespace Pd
open PySem PySem.Spec PyProof.Rows L2
theorem hasK_nil : (hasK ([] : List Key)) = fun _ => false := by
  funext j
  simp [hasK]
/-- set() -/
def rNewL (P : Program) (w : World) : List V → Hp → VK → Prop := fun xs H Q => xs = [] ∧ ∀ p, H p = none → Q (.ref p) (upd H p (SetL P w p []))
/-- k in found -/
def rInL (P : Program) (w : World) : R2 := fun x y H Q => ∃ (k : Key) (a : Addr) (L : List Key), x = kV k ∧ y = V.ref a ∧ H a = some (SetL P w a L) ∧ Q (.bl (hasK L k)) H
/-- found.add(k) -/
def rAddL (P : Program) (w : World) : V → List V → Hp → VK → Prop := fun x xs H Q => ∃ (a : Addr) (k : Key) (L : List Key), x = V.ref a ∧ xs = [kV k] ∧ H a = some (SetL P w a L) ∧ L.length + 1 < 4096 ∧
  Q .non (upd H a (SetL P w a (addK L k)))
/-- a method of a set of keys, by one value -/
def tSM (P : Program) (w : World) (r : V → List V → Hp → VK → Prop) (to te : TE) : TE := fun σ H Q => to σ H fun x H1 => (∃ a L, x = V.ref a ∧ H1 a = some (SetL P w a L)) ∧ te σ H1 fun y H2 => r x [y] H2 Q
section
variable {X : Cx}
theorem cr_newL : CallR X (.type "set") (rNewL X.prog X.w) := by
  intro pins s σ H xs us Q I r h
  obtain ⟨e, q⟩ := h
  refine cr_set0K pins s σ H xs us Q I r ⟨e, fun p hp => ?_⟩
  have z := q p hp
  unfold SetL at z
  rw [hasK_nil] at z
  exact z
theorem op_inL : OpR X (compareOp .In) (rInL X.prog X.w) := by
  intro pins s σ H x y v u Q I rx ry h
  obtain ⟨k, a, L, ex, ey, ha, q⟩ := h
  exact or_sinK pins s σ H x y v u Q I rx ry ⟨k, a, hasK L, L.length, ex, ey, ha, q⟩
theorem mt_addL : MtR X "set.add" (rAddL X.prog X.w) := by
  intro pins s σ H x xs v us Q I rx rxs h
  obtain ⟨a, k, L, ex, exs, ha, room, q⟩ := h
  refine mt_saddK pins s σ H x xs v us Q I rx rxs ⟨a, k, hasK L, L.length, ex, exs, ha, room, ?_⟩
  unfold SetL at q
  rw [addK_len', show hasK (addK L k) = fun j => hasK L j || decide (j = k) from funext fun j => hasK_add] at q
  exact q
theorem pe_setM {a e : Expr} {ta te : TE} {name : Str} {id : String} {apos pos : Pos} {r : V → List V → Hp → VK → Prop} (slot : Slot "set" name id) (ty : typeOf (.builtin id) = pure (.type "method_descriptor")) (rule : MtR X id r) (ho : PE X a ta) (he : PE X e te)
    (hs : starEach [e] X.env = [(false, eval e X.env)] := by rfl) (hbase : attributeBase a name X.env (eval a X.env) = eval a X.env := by rfl) (hline : (apos.endLine == pos.line) = true := by rfl) :
    PE X (.Call (.Attribute a name apos) [e] [] pos) (tSM X.prog X.w r ta te) := by
  constructor
  intro pins s σ H Q I h
  refine PySem.Call_method1 hbase hs hline (thn (ho.run pins s σ H _ I h) ?_)
  rintro v s1 ⟨x, H1, I1, r1, ⟨b, L, rfl, hb⟩, q1⟩
  obtain rfl : v = Value.ref b := r1
  have hS := setK_get I1 hb
  refine ⟨"set", _, F.plainAttrs_set, slot, ty, hS.typeIs, hS.noDict, Calls.callWith_builtin rfl (Calls.evalArgs_plain (Calls.spliced_cons ?_))⟩
  exact thn (he.run pins s1 σ H1 _ I1 q1) fun w s2 ⟨y, H2, I2, r2, q2⟩ => Calls.spliced_nil (rule pins s2 σ H2 (.ref b) [y] (.ref b) [w] Q I2 rfl (.cons r2 .nil) q2)
end
end Pd

namespace Pd
open PySem PySem.Spec PyProof.Rows L2
/-! ### len(o) and o[i] of an own class -/
section
variable {X : Cx} {CX : CXT} {C g : Addr} {n : Nat} {sp : Sp} {E : XK}
/-- a def run one deeper -/
theorem run_fnR1 {pins : List (Addr × Obj)} {σ : L2.St} {H : Hp} {s : Shared} {f : Addr} {Q : VK} {us : List Value} {vs : List V} (F : FnR X.prog X.w X.K X.mg X.base CX n f sp) (hr : Room (n + 1) X.A) (hx : Passes CX X E) (I : Inv X pins σ H s) (r : Vals vs us) (h : sp vs H Q E) :
    codeAny (model X.prog X.w) X.A.in1 (.call (.ref f) ⟨us, []⟩) (fun r s' => match r with | .ok (.ret v) => EP X pins σ Q v s' | .ok _ => False | .error e => X.xe e s') s := by
  refine codeAny_mono (F X.A.in1 X.stack s H us vs Q E hr.in1 I.env0.in1 r h) fun r s' hq => ?_
  cases r with
  | error e => exact hx pins σ H s e s' I hq
  | ok fl =>
    cases fl with
    | ret u => exact I.after hq
    | next => exact False.elim hq
    | brk => exact False.elim hq
    | cont => exact False.elim hq
/-- the reading of len(o) -/
def rLenOwn (C : Addr) (sp : Sp) (E : XK) : List V → Hp → VK → Prop := fun xs H Q => ∃ a dx fs, xs = [.ref a] ∧ H a = some (.ins C dx fs) ∧ sp [.ref a] H (fun z H' => ∃ k : Nat, z = .int k ∧ k < 2 ^ 60 ∧ Q (.int k) H') E
theorem call_lenOwn (hs : PySem.W.findIn X.K (.ref C) "__len__" = some (some (.ref g))) (hf : PySem.W.isFn X.K (.ref g) = true) (F : FnR X.prog X.w X.K X.mg X.base CX n g sp) (hr : Room (n + 1) X.A) (hx : Passes CX X E) :
    CallR X (.builtin "len") (rLenOwn C sp E) := by
  intro pins s σ H xs us Q I r h
  obtain ⟨a, dx, fs, rfl, ha, q⟩ := h
  cases r with
  | cons rx rr =>
    cases rr
    cases rx
    obtain ⟨mA, J, _⟩ := ins_get I.hok ha
    obtain ⟨od, J, _⟩ := J.look
    obtain ⟨m, hF⟩ := I.fr
    refine PySem.W.len_K hF I.ok.mod.kin J hs hf ?_
    refine wpAny_mono (wpAny_call (run_fnR1 (us := [.ref a]) (vs := [.ref a]) F hr hx I (.cons rfl .nil) q)) (fun w s' z => ?_) fun _ _ x => x
    obtain ⟨z', H', I', rz, k, rfl, hk, qz⟩ := z
    obtain ⟨t, e⟩ : ∃ t, w = Value.int (k : Nat) t := rz
    subst e
    exact ⟨⟨by omega, by omega⟩, .int k, H', I'.tok _, ⟨_, rfl⟩, qz⟩
/-- the reading of o[i] -/
def rIxOwn (C : Addr) (sp : Sp) (E : XK) : R2 := fun x y H Q => ∃ a dx fs, x = .ref a ∧ H a = some (.ins C dx fs) ∧ sp [.ref a, y] H Q E
theorem pe_ixOwn (hs : PySem.W.findIn X.K (.ref C) "__getitem__" = some (some (.ref g))) (hf : PySem.W.isFn X.K (.ref g) = true) (hfi : PySem.W.fnIn X.K g = true) (F : FnR X.prog X.w X.K X.mg X.base CX n g sp) (hr : Room (n + 1) X.A) (hx : Passes CX X E) {a b : Expr} {ta tb : TE} {pos : Pos} (ha : PE X a ta) (hb : PE X b tb)
    (hsl : ∀ o i, subscripted b true o i = runValue (.builtin "lifetime.subscript" ⟨[o, i], []⟩) := by intro o i; with_unfolding_all rfl) : PE X (.Subscript a b pos) (tOp (rIxOwn C sp E) ta tb) := by
  refine ⟨fun pins s σ H Q I h => ?_⟩
  refine Subscript_ (binT ha hb I h fun v u s x y H I rx ry h => ?_)
  obtain ⟨a, dx, fs, rfl, ha, q⟩ := h
  cases (show v = Value.ref a from rx)
  obtain ⟨mA, J, _⟩ := ins_get I.hok ha
  obtain ⟨od, J, _⟩ := J.look
  obtain ⟨m, hF⟩ := I.fr
  refine PySem.W.sub_K hF I.ok.mod.kin J hs hfi hf ?_ (hsl _ _)
  exact wpAny_call (run_fnR1 (us := [.ref a, u]) (vs := [.ref a, y]) F hr hx I (.cons rfl (.cons ry .nil)) q)
end
end Pd

set_option maxHeartbeats 4000000
namespace Pd
open PySem PySem.Spec PySem.Calls PyProof.Rows L2 MeetsSeq
/-! ### == and != of an own class with an own __eq__: the values of other kinds decline -/
/-- an instance of the class at C stands at x; the class is neither list nor tuple -/
structure InsX (K : PySem.W.Frag) (C x dx : Addr) (h : Heap) : Prop where
  i : K.In h
  o : h.get? x = some (PySem.W.instObj C dx)
  j : ∃ od, PySem.W.InstAt h x (PySem.W.instObj C dx) C (some od)
  nl : PySem.W.subIn K (.ref C) (.type "list") = some false
  nt : PySem.W.subIn K (.ref C) (.type "tuple") = some false
section
variable {K : PySem.W.Frag} {C x dx : Addr}
theorem InsX.noL {prog : Program} {w : World} {h : Heap} (I : InsX K C x dx h) : PySem.W.Looks (model prog w) h (isInstance (.ref x) (.type "list")) false := by
  obtain ⟨od, J⟩ := I.j
  exact J.type.andThen (PySem.W.looks_subIn I.i I.nl)
theorem InsX.noT {prog : Program} {w : World} {h : Heap} (I : InsX K C x dx h) : PySem.W.Looks (model prog w) h (isInstance (.ref x) (.type "tuple")) false := by
  obtain ⟨od, J⟩ := I.j
  exact J.type.andThen (PySem.W.looks_subIn I.i I.nt)
theorem listEq_dec (l : Addr) : Meets (Builtin.«list.__eq__» ⟨[.ref l, .ref x], []⟩) (fun _ R s => InsX K C x dx s.heap ∧ R (.ok (.ret .notImplemented)) s) :=
  .of_wp fun prog w A R s h => by
    obtain ⟨hp, g, d, tk, os⟩ := s
    obtain ⟨I, h⟩ := h
    have f1 := I.noL (prog := prog) (w := w)
    wp_walk using f1.here
    exact ⟨_, rfl, h⟩
theorem listNe_dec (l : Addr) : Meets (Builtin.«list.__ne__» ⟨[.ref l, .ref x], []⟩) (fun _ R s => InsX K C x dx s.heap ∧ R (.ok (.ret .notImplemented)) s) :=
  .of_wp fun prog w A R s h => by
    obtain ⟨hp, g, d, tk, os⟩ := s
    obtain ⟨I, h⟩ := h
    have f1 := I.noL (prog := prog) (w := w)
    wp_walk using f1.here
    exact ⟨_, rfl, h⟩
theorem tupEq_dec (l : Addr) : Meets (Builtin.«tuple.__eq__» ⟨[.ref l, .ref x], []⟩) (fun _ R s => InsX K C x dx s.heap ∧ R (.ok (.ret .notImplemented)) s) :=
  .of_wp fun prog w A R s h => by
    obtain ⟨hp, g, d, tk, os⟩ := s
    obtain ⟨I, h⟩ := h
    have f1 := I.noT (prog := prog) (w := w)
    wp_walk using f1.here
    exact ⟨_, rfl, h⟩
theorem tupNe_dec (l : Addr) : Meets (Builtin.«tuple.__ne__» ⟨[.ref l, .ref x], []⟩) (fun _ R s => InsX K C x dx s.heap ∧ R (.ok (.ret .notImplemented)) s) :=
  .of_wp fun prog w A R s h => by
    obtain ⟨hp, g, d, tk, os⟩ := s
    obtain ⟨I, h⟩ := h
    have f1 := I.noT (prog := prog) (w := w)
    wp_walk using f1.here
    exact ⟨_, rfl, h⟩
theorem strEq_dec (b : Str) (u : Tok) : Meets (Builtin.«str.__eq__» ⟨[.str b u, .ref x], []⟩) (fun _ R s => InsX K C x dx s.heap ∧ R (.ok (.ret .notImplemented)) s) :=
  .of_wp fun prog w A R s h => by
    obtain ⟨hp, g, d, tk, os⟩ := s
    obtain ⟨I, h⟩ := h
    have hl := I.o
    wp_walk using wpAny_load hl
    exact ⟨_, rfl, h⟩
theorem strNe_dec (b : Str) (u : Tok) : Meets (Builtin.«str.__ne__» ⟨[.str b u, .ref x], []⟩) (fun _ R s => InsX K C x dx s.heap ∧ R (.ok (.ret .notImplemented)) s) :=
  .of_wp fun prog w A R s h => by
    obtain ⟨hp, g, d, tk, os⟩ := s
    obtain ⟨I, h⟩ := h
    have hl := I.o
    wp_walk using wpAny_load hl
    exact ⟨_, rfl, h⟩
theorem intEq_dec (b : Int) (u : Tok) : Meets (Builtin.«int.__eq__» ⟨[.int b u, .ref x], []⟩) (fun _ R s => InsX K C x dx s.heap ∧ R (.ok (.ret .notImplemented)) s) :=
  .of_wp fun prog w A R s h => by
    obtain ⟨hp, g, d, tk, os⟩ := s
    obtain ⟨I, h⟩ := h
    have hl := I.o
    wp_walk using wpAny_load hl
    exact ⟨_, rfl, h⟩
theorem intNe_dec (b : Int) (u : Tok) : Meets (Builtin.«int.__ne__» ⟨[.int b u, .ref x], []⟩) (fun _ R s => InsX K C x dx s.heap ∧ R (.ok (.ret .notImplemented)) s) :=
  .of_wp fun prog w A R s h => by
    obtain ⟨hp, g, d, tk, os⟩ := s
    obtain ⟨I, h⟩ := h
    have hl := I.o
    wp_walk using wpAny_load hl
    exact ⟨_, rfl, h⟩
theorem bolEq_dec (b : Bool) : Meets (Builtin.«int.__eq__» ⟨[.bool b, .ref x], []⟩) (fun _ R s => InsX K C x dx s.heap ∧ R (.ok (.ret .notImplemented)) s) :=
  .of_wp fun prog w A R s h => by
    obtain ⟨hp, g, d, tk, os⟩ := s
    obtain ⟨I, h⟩ := h
    have hl := I.o
    wp_walk using wpAny_load hl
    exact ⟨_, rfl, h⟩
theorem bolNe_dec (b : Bool) : Meets (Builtin.«int.__ne__» ⟨[.bool b, .ref x], []⟩) (fun _ R s => InsX K C x dx s.heap ∧ R (.ok (.ret .notImplemented)) s) :=
  .of_wp fun prog w A R s h => by
    obtain ⟨hp, g, d, tk, os⟩ := s
    obtain ⟨I, h⟩ := h
    have hl := I.o
    wp_walk using wpAny_load hl
    exact ⟨_, rfl, h⟩
end
end Pd

set_option maxHeartbeats 4000000
namespace Pd
open PySem PySem.Spec PySem.Calls PyProof.Rows L2 MeetsSeq
open PySem.W (InstAt Looks findIn subIn isFn looks_subIn looks_findIn notFirst ifBound_K check_slot)
/-! ### == and != of an own class, from the left and from the right -/
section
variable {prog : Program} {w : World} {A : Around} {E : Value → Shared → Prop} {s : Shared} {K : PySem.W.Frag} {x C f : Addr} {ox : Obj} {od : Option Obj} {b tb : Value}
theorem tc_eq {Q : Option Value → Shared → Prop} (X : K.In s.heap) (J : InstAt s.heap x ox C od) (hs : findIn K (.ref C) "__eq__" = some (some (.ref f))) (hf : isFn K (.ref f) = true)
    (h : wpAny (model prog w) A (call (.ref f) [.ref x, b]) (fun v s' => ∃ r, v = .bool r ∧ Q (some (.bool r)) s') E s) : wpAny (model prog w) A (tryCompare (.ref x) "__eq__" b) Q E s := by
  unfold tryCompare
  refine wpAny_bind (ifBound_K X J hs hf (wpAny_mono h (fun v s' hv => ?_) fun _ _ e => e))
  obtain ⟨r, rfl, q⟩ := hv
  exact wpAny_pure q
theorem objNe {Q : Fin → Shared → Prop} (hu : A.units < cLine) (X : K.In s.heap) (J : InstAt s.heap x ox C od) (hs : findIn K (.ref C) "__eq__" = some (some (.ref f))) (hf : isFn K (.ref f) = true)
    (h : wpAny (model prog w) A (call (.ref f) [.ref x, b]) (fun v s' => ∃ r, v = .bool r ∧ Q (.done (.ret (.bool (!r)))) s') E s) : wpAny (model prog w) A (Builtin.«object.__ne__» ⟨[.ref x, b], []⟩) Q E s := by
  unfold Builtin.«object.__ne__»
  refine wpAny_bind (wpAny_of_eq (a := ((Value.ref x : Value), [b])) (by first | rfl | (simp only [slotArgs]; rfl)) ?_)
  refine wpAny_bind (wpAny_cRoomFor hu ?_)
  refine wpAny_bind (ifBound_K X J hs hf (wpAny_mono h (fun v s' hv => ?_) fun _ _ e => e))
  obtain ⟨r, rfl, q⟩ := hv
  refine wpAny_bind (wpAny_truthy_bool ?_)
  exact wpAny_pure q
theorem tc_ne {Q : Option Value → Shared → Prop} (hu : A.in1.units < cLine) (X : K.In s.heap) (J : InstAt s.heap x ox C od) (hne : findIn K (.ref C) "__ne__" = some (some (.builtin "object.__ne__"))) (hob : subIn K (.ref C) (.type "object") = some true)
    (hs : findIn K (.ref C) "__eq__" = some (some (.ref f))) (hf : isFn K (.ref f) = true)
    (h : wpAny (model prog w) A.in1 (call (.ref f) [.ref x, b]) (fun v s' => ∃ r, v = .bool r ∧ Q (some (.bool (!r))) s') E s) : wpAny (model prog w) A (tryCompare (.ref x) "__ne__" b) Q E s := by
  have sub : Looks (model prog w) s.heap (isInstance (.ref x) (.type "object")) true := J.type.andThen (looks_subIn X hob)
  have go : wpAny (model prog w) A (call (.builtin "object.__ne__") [.ref x, b]) (fun v s' => ∃ r, v = .bool r ∧ Q (some (.bool r)) s') E s := by
    refine wpAny_call (codeAny_call_builtin PySem.F.cmp_object.ne.plain PySem.F.cmpEntry_ne ?_)
    refine check_slot PySem.F.cmpKind_ne PySem.F.cmpSplit_ne sub (PySem.F.cmpArgs_ne _ _) ?_
    refine objNe hu X J hs hf (wpAny_mono h (fun v s' hv => ?_) fun _ _ e => e)
    obtain ⟨r, rfl, q⟩ := hv
    exact ⟨r, rfl, _, rfl, q⟩
  have fin : wpAny (model prog w) A (call (.builtin "object.__ne__") ([.ref x] ++ [b]) >>= fun v => pure (some v)) (fun r s' => wpAny (model prog w) A (match r with | some .notImplemented | none => pure none | some v => pure (some v)) Q E s') E s := by
    refine wpAny_bind (wpAny_mono go (fun v s' hv => ?_) fun _ _ e => e)
    obtain ⟨r, rfl, q⟩ := hv
    exact wpAny_pure (wpAny_pure q)
  unfold tryCompare
  simp only [callSpecialIfBound?, bindSpecialIfBound?]
  refine wpAny_bind (wpAny_holding (wpAny_bind (wpAny_bind (wpAny_bind (J.type.here ((looks_findIn X hne).here ?_))))))
  refine wpAny_bind (wpAny_askSetting (wpAny_ite ?_))
  have bnd : bindSpecial (.builtin "object.__ne__") (.ref x) = pure ((.builtin "object.__ne__" : Value), [.ref x]) := PySem.F.cmp_object.ne.bind (.ref x)
  split
  · exact wpAny_bind (wpAny_of_eq bnd (wpAny_pure (by exact fin)))
  · exact wpAny_tryCatch (wpAny_bind (wpAny_of_eq bnd (wpAny_pure (by exact fin))))
theorem rc_left {op : CmpOp} {Q : Value → Shared → Prop} (hu : A.units < cLine) (X : K.In s.heap) (J : InstAt s.heap x ox C od) (hb : Looks (model prog w) s.heap (typeOf b) tb) (hn : notFirst K C tb = true)
    (h : wpAny (model prog w) A (tryCompare (.ref x) (cmpInfo op).2.1 b) (fun r s' => ∃ v, r = some v ∧ Q v s') E s) : wpAny (model prog w) A (richCompare op (.ref x) b) Q E s := by
  unfold richCompare
  simp only [oneThing_ref]
  refine wpAny_holding (wpAny_bind (wpAny_cRoomFor hu (wpAny_bind (J.type.here (wpAny_bind (hb.here ?_))))))
  split
  · rename_i q
    have e : subIn K tb (.ref C) = some false := by
      rcases Bool.or_eq_true_iff.mp hn with e | e
      · rw [beq_iff_eq.mp e] at q; simp at q
      · exact beq_iff_eq.mp e
    refine wpAny_bind ((looks_subIn X e).here ?_)
    simp only [Bool.false_eq_true, if_false]
    refine wpAny_bind (wpAny_mono h (fun r s' z => ?_) fun _ _ e => e)
    obtain ⟨v, rfl, hq⟩ := z
    exact wpAny_pure hq
  · refine wpAny_bind (wpAny_pure ?_)
    simp only [Bool.false_eq_true, if_false]
    refine wpAny_bind (wpAny_mono h (fun r s' z => ?_) fun _ _ e => e)
    obtain ⟨v, rfl, hq⟩ := z
    exact wpAny_pure hq
theorem rc_right {op : CmpOp} {a : Value} {Ta id : String} {Q : Value → Shared → Prop} (ha : s.TypeIs a Ta) (hu : A.units < cLine) (X : K.In s.heap) (J : InstAt s.heap x ox C od) (hsub : subIn K (.ref C) (.type Ta) = some false) (h1 : Slot Ta (cmpInfo op).2.1 id)
    (hc1 : ∀ Q' : Value → Shared → Prop, Q' .notImplemented s → wpAny (model prog w) A (call (.builtin id) [a, .ref x]) Q' E s)
    (h : wpAny (model prog w) A (tryCompare (.ref x) (cmpInfo op).2.2 a) (fun r s' => ∃ v, r = some v ∧ Q v s') E s) : wpAny (model prog w) A (richCompare op a (.ref x)) Q E s := by
  rcases hi : cmpInfo op with ⟨sym, n1, n2⟩
  rw [hi] at h1 h
  simp only [richCompare, hi, ha.oneThing_none]
  refine wpAny_holding (wpAny_bind (wpAny_cRoomFor hu (wpAny_bind (wpAny_typeOf ha (wpAny_bind (J.type.here ?_))))))
  have ne : (Value.type Ta != Value.ref C) = true := rfl
  simp only [ne, if_true]
  refine wpAny_bind ((looks_subIn X hsub).here ?_)
  simp only [Bool.false_eq_true, if_false, Bool.not_false, if_true]
  refine wpAny_bind (m := tryCompare a _ (.ref x)) (wpAny_tryCompare_declines ha h1 (hc1 _ ⟨rfl, ?_⟩))
  refine wpAny_bind (wpAny_mono h (fun r s' z => ?_) fun _ _ e => e)
  obtain ⟨v, rfl, hq⟩ := z
  exact wpAny_pure hq
end
end Pd

set_option maxHeartbeats 4000000
namespace Pd
open PySem PySem.Spec PySem.Calls PyProof.Rows L2 MeetsSeq
open PySem.W (InstAt Looks findIn subIn isFn looks_subIn looks_findIn notFirst)
/-! ### == and != of an own class in a text -/
/-- what the class must say -/
structure EqC (K : PySem.W.Frag) (C g : Addr) : Prop where
  eq : findIn K (.ref C) "__eq__" = some (some (.ref g))
  fn : isFn K (.ref g) = true
  ne : findIn K (.ref C) "__ne__" = some (some (.builtin "object.__ne__"))
  ob : subIn K (.ref C) (.type "object") = some true
  l : subIn K (.ref C) (.type "list") = some false
  t : subIn K (.ref C) (.type "tuple") = some false
  s : subIn K (.ref C) (.type "str") = some false
  i : subIn K (.ref C) (.type "int") = some false
  b : subIn K (.ref C) (.type "bool") = some false
  n : subIn K (.ref C) (.type "NoneType") = some false
  l' : subIn K (.type "list") (.ref C) = some false
  t' : subIn K (.type "tuple") (.ref C) = some false
  s' : subIn K (.type "str") (.ref C) = some false
  i' : subIn K (.type "int") (.ref C) = some false
  b' : subIn K (.type "bool") (.ref C) = some false
  n' : subIn K (.type "NoneType") (.ref C) = some false
/-- a value of a built-in kind -/
inductive Bk (K : PySem.W.Frag) (H : Hp) : V → Prop where
  | non : Bk K H .non
  | int (i : Int) : Bk K H (.int i)
  | bl (b : Bool) : Bk K H (.bl b)
  | str (s : Str) : Bk K H (.str s)
  | lst {a : Addr} {xs : List V} (h : SqL K H a xs) : Bk K H (.ref a)
  | tup {a : Addr} {xs : List V} (h : SqT K H a xs) : Bk K H (.ref a)
/-- the other side -/
inductive Kd (K : PySem.W.Frag) (C : Addr) (H : Hp) : V → Prop where
  | kind {y : V} (h : Bk K H y) : Kd K C H y
  | own {a C' dx : Addr} {fs : List (Str × V)} (h : H a = some (.ins C' dx fs)) (n : notFirst K C (.ref C') = true) : Kd K C H (.ref a)
def rOwnL (K : PySem.W.Frag) (C : Addr) (k : Bool → Bool) (sp : Sp) (E : XK) : R2 := fun x y H Q => ∃ a dx fs, x = .ref a ∧ H a = some (.ins C dx fs) ∧ Kd K C H y ∧ sp [.ref a, y] H (fun z H' => ∃ b, z = .bl b ∧ Q (.bl (k b)) H') E
def rOwnR (K : PySem.W.Frag) (C : Addr) (k : Bool → Bool) (sp : Sp) (E : XK) : R2 := fun x y H Q => ∃ a dx fs, y = .ref a ∧ H a = some (.ins C dx fs) ∧ Bk K H x ∧ sp [.ref a, x] H (fun z H' => ∃ b, z = .bl b ∧ Q (.bl (k b)) H') E
section
variable {X : Cx} {CX : CXT} {C g : Addr} {n : Nat} {sp : Sp} {E : XK} {pins : List (Addr × Obj)} {σ : L2.St} {H : Hp} {s : Shared} {Q : VK}
theorem lookT {M : Model} {h : Heap} {a : Addr} {o : Obj} {T : String} (e : h.get? a = some o) (c : o.cls = .type T) : Looks M h (typeOf (.ref a)) (.type T) := fun A Q E s k q => by
  obtain ⟨oc, od, dt, sl⟩ := o
  simp only at c
  subst c
  exact wpAny_typeOf ⟨_, k _ _ e, rfl⟩ q
theorem own_eq {a dx : Addr} {fs : List (Str × V)} {y : V} {u : Value} {k : Bool → Bool} (Z : EqC X.K C g) (F : FnR X.prog X.w X.K X.mg X.base CX n g sp) (hr : Room n X.A) (hx : Passes CX X E) (I : Inv X pins σ H s) (ha : H a = some (.ins C dx fs)) (ry : RelV y u)
    (q : sp [.ref a, y] H (fun z H' => ∃ b, z = .bl b ∧ Q (.bl b) H') E) : wpAny (model X.prog X.w) X.A (tryCompare (.ref a) "__eq__" u) (fun r s' => ∃ v, r = some v ∧ EP X pins σ Q v s') X.xe s := by
  obtain ⟨mA, J, _⟩ := ins_get I.hok ha
  obtain ⟨od, J, _⟩ := J.look
  refine tc_eq I.kIn J Z.eq Z.fn (wpAny_mono (wpAny_call (run_fnR (us := [.ref a, u]) (vs := [.ref a, y]) F hr hx I (.cons rfl (.cons ry .nil)) q)) (fun w s' z => ?_) fun _ _ x => x)
  obtain ⟨z', H', I', rz, b, rfl, qz⟩ := z
  cases (show w = Value.bool b from rz)
  exact ⟨b, rfl, _, rfl, .bl b, H', I', rfl, qz⟩
theorem own_ne {a dx : Addr} {fs : List (Str × V)} {y : V} {u : Value} (Z : EqC X.K C g) (F : FnR X.prog X.w X.K X.mg X.base CX n g sp) (hr : Room (n + 1) X.A) (hx : Passes CX X E) (I : Inv X pins σ H s) (ha : H a = some (.ins C dx fs)) (ry : RelV y u)
    (q : sp [.ref a, y] H (fun z H' => ∃ b, z = .bl b ∧ Q (.bl (!b)) H') E) : wpAny (model X.prog X.w) X.A (tryCompare (.ref a) "__ne__" u) (fun r s' => ∃ v, r = some v ∧ EP X pins σ Q v s') X.xe s := by
  obtain ⟨mA, J, _⟩ := ins_get I.hok ha
  obtain ⟨od, J, _⟩ := J.look
  have hu : X.A.in1.units < cLine := by have := hr.in1.units; omega
  refine tc_ne hu I.kIn J Z.ne Z.ob Z.eq Z.fn (wpAny_mono (wpAny_call (run_fnR1 (us := [.ref a, u]) (vs := [.ref a, y]) F hr hx I (.cons rfl (.cons ry .nil)) q)) (fun w s' z => ?_) fun _ _ x => x)
  obtain ⟨z', H', I', rz, b, rfl, qz⟩ := z
  cases (show w = Value.bool b from rz)
  exact ⟨b, rfl, _, rfl, .bl (!b), H', I', rfl, qz⟩
/-- the type of the other side, which is not asked first -/
theorem kd_look {y : V} {u : Value} (Z : EqC X.K C g) (I : Inv X pins σ H s) (h : Kd X.K C H y) (ry : RelV y u) : ∃ tb, Looks (model X.prog X.w) s.heap (typeOf u) tb ∧ notFirst X.K C tb = true := by
  have nf : ∀ {T : String}, subIn X.K (.type T) (.ref C) = some false → notFirst X.K C (.type T) = true := fun e => by
    unfold notFirst
    rw [e]; simp
  cases h with
  | @own a C' dx fs h n =>
    cases (show u = Value.ref a from ry)
    obtain ⟨mA, J, _⟩ := ins_get I.hok h
    obtain ⟨od, J, _⟩ := J.look
    exact ⟨_, J.type, n⟩
  | kind h =>
    cases h with
    | non => cases ry; exact ⟨_, PySem.W.Looks.of_pure rfl, nf Z.n'⟩
    | int i => obtain ⟨t, rfl⟩ := ry; exact ⟨_, PySem.W.Looks.of_pure rfl, nf Z.i'⟩
    | bl b => cases ry; exact ⟨_, PySem.W.Looks.of_pure rfl, nf Z.b'⟩
    | str x => obtain ⟨t, rfl⟩ := ry; exact ⟨_, PySem.W.Looks.of_pure rfl, nf Z.s'⟩
    | @lst a xs h =>
      cases (show u = Value.ref a from ry)
      obtain ⟨its, rv, pl, hz⟩ := I.list h
      obtain ⟨o, ho, hc, _⟩ := pl.isList
      exact ⟨_, lookT ho hc, nf Z.l'⟩
    | @tup a xs h =>
      cases (show u = Value.ref a from ry)
      obtain ⟨its, rv, ⟨o, ho, hc, _⟩, hz⟩ := I.tuple h
      exact ⟨_, lookT ho hc, nf Z.t'⟩
theorem op_eqL (Z : EqC X.K C g) (F : FnR X.prog X.w X.K X.mg X.base CX n g sp) (hr : Room n X.A) (hx : Passes CX X E) : OpR X (compareOp .Eq) (rOwnL X.K C (fun b => b) sp E) := by
  intro pins s σ H x y v u Q I rx ry h
  obtain ⟨a, dx, fs, rfl, ha, hk, q⟩ := h
  cases (show v = Value.ref a from rx)
  obtain ⟨tb, lk, nf⟩ := kd_look Z I hk ry
  obtain ⟨mA, J, _⟩ := ins_get I.hok ha
  obtain ⟨od, J, _⟩ := J.look
  exact rc_left (op := .Eq) (by have := hr.units; omega) I.kIn J lk nf (own_eq (k := fun b => b) Z F hr hx I ha ry q)
theorem op_neL (Z : EqC X.K C g) (F : FnR X.prog X.w X.K X.mg X.base CX n g sp) (hr : Room (n + 1) X.A) (hx : Passes CX X E) : OpR X (compareOp .NotEq) (rOwnL X.K C (fun b => !b) sp E) := by
  intro pins s σ H x y v u Q I rx ry h
  obtain ⟨a, dx, fs, rfl, ha, hk, q⟩ := h
  cases (show v = Value.ref a from rx)
  obtain ⟨tb, lk, nf⟩ := kd_look Z I hk ry
  obtain ⟨mA, J, _⟩ := ins_get I.hok ha
  obtain ⟨od, J, _⟩ := J.look
  exact rc_left (op := .NotEq) (by have := hr.units; omega) I.kIn J lk nf (own_ne Z F hr hx I ha ry q)
theorem ins_x {a dx : Addr} {fs : List (Str × V)} (Z : EqC X.K C g) (I : Inv X pins σ H s) (ha : H a = some (.ins C dx fs)) : InsX X.K C a dx s.heap := by
  obtain ⟨mA, J, _⟩ := ins_get I.hok ha
  obtain ⟨od, J', _⟩ := J.look
  exact ⟨I.kIn, J.obj, ⟨od, J'⟩, Z.l, Z.t⟩
theorem op_eqR (Z : EqC X.K C g) (F : FnR X.prog X.w X.K X.mg X.base CX n g sp) (hr : Room n X.A) (hx : Passes CX X E) : OpR X (compareOp .Eq) (rOwnR X.K C (fun b => b) sp E) := by
  intro pins s σ H x y v u Q I rx ry h
  obtain ⟨a, dx, fs, rfl, ha, hk, q⟩ := h
  cases (show u = Value.ref a from ry)
  obtain ⟨mA, J, _⟩ := ins_get I.hok ha
  obtain ⟨od, J, _⟩ := J.look
  have hu : X.A.units < cLine := by have := hr.units; omega
  have ix := ins_x Z I ha
  have go := own_eq (k := fun b => b) (Q := Q) Z F hr hx I ha rx q
  cases hk with
  | non => cases rx; exact rc_right (op := .Eq) (a := .none) rfl hu I.kIn J Z.n PySem.F.slot_NoneType_eq (fun _ hq => call_gives PySem.F.slot_NoneType_eq rfl PySem.F.entry_NoneType_eq (PySem.F.args_NoneType_eq_2 _ _) (SeqAt.NoneType___eq___none_ref_0 a) hq) go
  | int i => obtain ⟨t, rfl⟩ := rx; exact rc_right (op := .Eq) (typeIs_int s i t) hu I.kIn J Z.i PySem.F.slot_int_eq (fun _ hq => call_meets PySem.F.slot_int_eq (typeIs_int s i t) PySem.F.entry_int_eq (PySem.F.args_int_eq_2 _ _) (intEq_dec i t) ⟨ix, hq⟩) go
  | bl b => cases rx; exact rc_right (op := .Eq) (a := .bool b) rfl hu I.kIn J Z.b PySem.F.slot_bool_eq (fun _ hq => call_meets PySem.F.slot_bool_eq rfl PySem.F.entry_int_eq (PySem.F.args_int_eq_2 _ _) (bolEq_dec b) ⟨ix, hq⟩) go
  | str x => obtain ⟨t, rfl⟩ := rx; exact rc_right (op := .Eq) (typeIs_str s x t) hu I.kIn J Z.s PySem.F.slot_str_eq (fun _ hq => call_meets PySem.F.slot_str_eq (typeIs_str s x t) PySem.F.entry_str_eq (PySem.F.args_str_eq_2 _ _) (strEq_dec x t) ⟨ix, hq⟩) go
  | @lst l xs h =>
    cases (show v = Value.ref l from rx)
    obtain ⟨its, rv, pl, hz⟩ := I.list h
    obtain ⟨⟨oc, od', dt, sl⟩, ho, hc, _⟩ := pl.isList
    simp only at hc
    subst hc
    exact rc_right (op := .Eq) ⟨_, ho, rfl⟩ hu I.kIn J Z.l PySem.F.slot_list_eq (fun _ hq => call_meets PySem.F.slot_list_eq ⟨_, ho, rfl⟩ PySem.F.entry_list_eq (PySem.F.args_list_eq_2 _ _) (listEq_dec l) ⟨ix, hq⟩) go
  | @tup l xs h =>
    cases (show v = Value.ref l from rx)
    obtain ⟨its, rv, ⟨⟨oc, od', dt, sl⟩, ho, hc, _⟩, hz⟩ := I.tuple h
    simp only at hc
    subst hc
    exact rc_right (op := .Eq) ⟨_, ho, rfl⟩ hu I.kIn J Z.t PySem.F.slot_tuple_eq (fun _ hq => call_meets PySem.F.slot_tuple_eq ⟨_, ho, rfl⟩ PySem.F.entry_tuple_eq (PySem.F.args_tuple_eq_2 _ _) (tupEq_dec l) ⟨ix, hq⟩) go
theorem op_neR (Z : EqC X.K C g) (F : FnR X.prog X.w X.K X.mg X.base CX n g sp) (hr : Room (n + 1) X.A) (hx : Passes CX X E) : OpR X (compareOp .NotEq) (rOwnR X.K C (fun b => !b) sp E) := by
  intro pins s σ H x y v u Q I rx ry h
  obtain ⟨a, dx, fs, rfl, ha, hk, q⟩ := h
  cases (show u = Value.ref a from ry)
  obtain ⟨mA, J, _⟩ := ins_get I.hok ha
  obtain ⟨od, J, _⟩ := J.look
  have hu : X.A.units < cLine := by have := hr.units; omega
  have ix := ins_x Z I ha
  have go := own_ne (Q := Q) Z F hr hx I ha rx q
  cases hk with
  | non => cases rx; exact rc_right (op := .NotEq) (a := .none) rfl hu I.kIn J Z.n PySem.F.slot_NoneType_ne (fun _ hq => call_gives PySem.F.slot_NoneType_ne rfl PySem.F.entry_NoneType_ne (PySem.F.args_NoneType_ne_2 _ _) (SeqAt.NoneType___ne___none_ref_0 a) hq) go
  | int i => obtain ⟨t, rfl⟩ := rx; exact rc_right (op := .NotEq) (typeIs_int s i t) hu I.kIn J Z.i PySem.F.slot_int_ne (fun _ hq => call_meets PySem.F.slot_int_ne (typeIs_int s i t) PySem.F.entry_int_ne (PySem.F.args_int_ne_2 _ _) (intNe_dec i t) ⟨ix, hq⟩) go
  | bl b => cases rx; exact rc_right (op := .NotEq) (a := .bool b) rfl hu I.kIn J Z.b PySem.F.slot_bool_ne (fun _ hq => call_meets PySem.F.slot_bool_ne rfl PySem.F.entry_int_ne (PySem.F.args_int_ne_2 _ _) (bolNe_dec b) ⟨ix, hq⟩) go
  | str x => obtain ⟨t, rfl⟩ := rx; exact rc_right (op := .NotEq) (typeIs_str s x t) hu I.kIn J Z.s PySem.F.slot_str_ne (fun _ hq => call_meets PySem.F.slot_str_ne (typeIs_str s x t) PySem.F.entry_str_ne (PySem.F.args_str_ne_2 _ _) (strNe_dec x t) ⟨ix, hq⟩) go
  | @lst l xs h =>
    cases (show v = Value.ref l from rx)
    obtain ⟨its, rv, pl, hz⟩ := I.list h
    obtain ⟨⟨oc, od', dt, sl⟩, ho, hc, _⟩ := pl.isList
    simp only at hc
    subst hc
    exact rc_right (op := .NotEq) ⟨_, ho, rfl⟩ hu I.kIn J Z.l PySem.F.slot_list_ne (fun _ hq => call_meets PySem.F.slot_list_ne ⟨_, ho, rfl⟩ PySem.F.entry_list_ne (PySem.F.args_list_ne_2 _ _) (listNe_dec l) ⟨ix, hq⟩) go
  | @tup l xs h =>
    cases (show v = Value.ref l from rx)
    obtain ⟨its, rv, ⟨⟨oc, od', dt, sl⟩, ho, hc, _⟩, hz⟩ := I.tuple h
    simp only at hc
    subst hc
    exact rc_right (op := .NotEq) ⟨_, ho, rfl⟩ hu I.kIn J Z.t PySem.F.slot_tuple_ne (fun _ hq => call_meets PySem.F.slot_tuple_ne ⟨_, ho, rfl⟩ PySem.F.entry_tuple_ne (PySem.F.args_tuple_ne_2 _ _) (tupNe_dec l) ⟨ix, hq⟩) go
/-- from either side -/
def rOwnE (K : PySem.W.Frag) (C : Addr) (k : Bool → Bool) (sp : Sp) (E : XK) : R2 := fun x y H Q => rOwnL K C k sp E x y H Q ∨ rOwnR K C k sp E x y H Q
theorem op_eqO (Z : EqC X.K C g) (F : FnR X.prog X.w X.K X.mg X.base CX n g sp) (hr : Room n X.A) (hx : Passes CX X E) : OpR X (compareOp .Eq) (rOwnE X.K C (fun b => b) sp E) := by
  intro pins s σ H x y v u Q I rx ry h
  rcases h with h | h
  · exact op_eqL Z F hr hx pins s σ H x y v u Q I rx ry h
  · exact op_eqR Z F hr hx pins s σ H x y v u Q I rx ry h
theorem op_neO (Z : EqC X.K C g) (F : FnR X.prog X.w X.K X.mg X.base CX n g sp) (hr : Room (n + 1) X.A) (hx : Passes CX X E) : OpR X (compareOp .NotEq) (rOwnE X.K C (fun b => !b) sp E) := by
  intro pins s σ H x y v u Q I rx ry h
  rcases h with h | h
  · exact op_neL Z F hr hx pins s σ H x y v u Q I rx ry h
  · exact op_neR Z F hr hx pins s σ H x y v u Q I rx ry h
end
end Pd

namespace Pd
open PySem L2
def top (i : Nat) : Stmt := PySem.Challenge.pw_plaindoors_k56_refused_texts.main.body.getD i (.Pass ⟨0, 0, 0, 0⟩)
abbrev sWall : Stmt := top 0
abbrev sIsCharacter : Stmt := top 4
abbrev sIsText : Stmt := top 5
abbrev sNostepInit : Stmt := inClass (top 10) 0
abbrev sNoformInit : Stmt := inClass (top 11) 0
abbrev sIsInteger : Stmt := top 15
abbrev sIsStep : Stmt := top 16
abbrev sIsChoice : Stmt := top 17
abbrev sMadeBySteps : Stmt := top 18
abbrev sMadeByStep : Stmt := top 19
abbrev sOnce : Stmt := top 20
abbrev sShelfInit : Stmt := inClass (top 22) 0
abbrev sShelfLen : Stmt := inClass (top 22) 1
abbrev sShelfContains : Stmt := inClass (top 22) 2
abbrev sShelfDoors : Stmt := inClass (top 22) 3
abbrev sShelfDoorsX : Stmt := inClass (top 22) 4
abbrev sShelfPut : Stmt := inClass (top 22) 5
abbrev sShelfFind : Stmt := inClass (top 22) 6
abbrev sShelfStrike : Stmt := inClass (top 22) 7
abbrev sShelfPutAll : Stmt := inClass (top 22) 8
abbrev sShelfTrial : Stmt := inClass (top 22) 9
abbrev sShelfChange : Stmt := inClass (top 22) 10
abbrev sShelfUndo : Stmt := inClass (top 22) 11
abbrev sShelfForms : Stmt := inClass (top 22) 12
abbrev sShelfFirstText : Stmt := inClass (top 22) 13
abbrev sShelfFormPut : Stmt := inClass (top 22) 14
abbrev sShelfEnter : Stmt := inClass (top 22) 15
abbrev sShelfNote : Stmt := inClass (top 22) 16
abbrev sCheckText : Stmt := top 23
abbrev sCheckTexts : Stmt := top 24
abbrev sDoorsInit : Stmt := inClass (top 26) 0
abbrev sDoorsEq : Stmt := inClass (top 26) 1
abbrev sDoorsPut : Stmt := inClass (top 26) 2
abbrev sDoorsFind : Stmt := inClass (top 26) 3
abbrev sDoorsStrike : Stmt := inClass (top 26) 4
abbrev sDoorsWish : Stmt := inClass (top 26) 5
abbrev sDoorsFolded : Stmt := inClass (top 26) 6
abbrev sFoldingInit : Stmt := inClass (top 29) 0
abbrev sFoldingCall : Stmt := inClass (top 29) 1
abbrev sFoldingGetitem : Stmt := inClass (top 29) 2
abbrev sFoldingIter : Stmt := inClass (top 29) 3
abbrev sFoldingLen : Stmt := inClass (top 29) 4
abbrev sFoldingEq : Stmt := inClass (top 29) 5
abbrev sFoldingAdd : Stmt := inClass (top 29) 6
abbrev sFoldingContains : Stmt := inClass (top 29) 7
abbrev sFoldingSteps : Stmt := inClass (top 29) 8
abbrev sFoldingWithout : Stmt := inClass (top 29) 9
abbrev sLawWell : Stmt := top 31
abbrev sLawDraw : Stmt := top 32
abbrev sLawChars : Stmt := top 33
abbrev sLawPool : Stmt := top 34
abbrev sLawCharacter : Stmt := top 35
abbrev sLawStep : Stmt := top 36
abbrev sLawSteps : Stmt := top 37
abbrev sLawDoors : Stmt := top 38
abbrev sLawFold : Stmt := top 39
abbrev sLawText : Stmt := top 40
abbrev sLawSame : Stmt := top 41
abbrev sLawPut : Stmt := top 42
abbrev sLawStrike : Stmt := top 43
abbrev sLawFind : Stmt := top 44
abbrev sLawPutAll : Stmt := top 45
abbrev sLawChange : Stmt := top 46
abbrev sLawUndo : Stmt := top 47
abbrev sLawGates : Stmt := top 48
abbrev sLawFormsAre : Stmt := top 49
abbrev sLawFound : Stmt := top 50
abbrev sLawStart : Stmt := top 51
abbrev sLawUsed : Stmt := top 52
abbrev sLawBadText : Stmt := top 53
abbrev sLawRefused : Stmt := top 54
abbrev sLawBased : Stmt := top 55
abbrev sLawNothing : Stmt := top 56
abbrev sLaw : Stmt := top 57
theorem scWall : FnScope ["k"] ["k"] (defScope sWall) := ⟨rfl, rfl, rfl, by decide +kernel, rfl, by decide +kernel, by decide +kernel⟩
theorem scIsCharacter : FnScope ["value"] ["value"] (defScope sIsCharacter) := ⟨rfl, rfl, rfl, by decide +kernel, rfl, by decide +kernel, by decide +kernel⟩
theorem scIsText : FnScope ["value", "character"] ["value"] (defScope sIsText) := ⟨rfl, rfl, rfl, by decide +kernel, rfl, by decide +kernel, by decide +kernel⟩
theorem scNostepInit : FnScope ["self", "index"] ["self", "index"] (defScope sNostepInit) := ⟨rfl, rfl, rfl, by decide +kernel, rfl, by decide +kernel, by decide +kernel⟩
theorem scNoformInit : FnScope ["self", "form"] ["self", "form"] (defScope sNoformInit) := ⟨rfl, rfl, rfl, by decide +kernel, rfl, by decide +kernel, by decide +kernel⟩
theorem scIsInteger : FnScope ["value"] ["value"] (defScope sIsInteger) := ⟨rfl, rfl, rfl, by decide +kernel, rfl, by decide +kernel, by decide +kernel⟩
theorem scIsStep : FnScope ["value", "name"] ["value"] (defScope sIsStep) := ⟨rfl, rfl, rfl, by decide +kernel, rfl, by decide +kernel, by decide +kernel⟩
theorem scIsChoice : FnScope ["value", "character"] ["value"] (defScope sIsChoice) := ⟨rfl, rfl, rfl, by decide +kernel, rfl, by decide +kernel, by decide +kernel⟩
theorem scMadeBySteps : FnScope ["steps", "text", "step"] ["steps", "text"] (defScope sMadeBySteps) := ⟨rfl, rfl, rfl, by decide +kernel, rfl, by decide +kernel, by decide +kernel⟩
theorem scMadeByStep : FnScope ["step", "text", "name", "character"] ["step", "text"] (defScope sMadeByStep) := ⟨rfl, rfl, rfl, by decide +kernel, rfl, by decide +kernel, by decide +kernel⟩
theorem scOnce : FnScope ["text", "single", "kept", "at"] ["text", "single"] (defScope sOnce) := ⟨rfl, rfl, rfl, by decide +kernel, rfl, by decide +kernel, by decide +kernel⟩
theorem scShelfInit : FnScope ["self", "doors"] ["self", "doors"] (defScope sShelfInit) := ⟨rfl, rfl, rfl, by decide +kernel, rfl, by decide +kernel, by decide +kernel⟩
theorem scShelfLen : FnScope ["self"] ["self"] (defScope sShelfLen) := ⟨rfl, rfl, rfl, by decide +kernel, rfl, by decide +kernel, by decide +kernel⟩
theorem scShelfContains : FnScope ["self", "x"] ["self", "x"] (defScope sShelfContains) := ⟨rfl, rfl, rfl, by decide +kernel, rfl, by decide +kernel, by decide +kernel⟩
theorem scShelfDoors : FnScope ["self"] ["self"] (defScope sShelfDoors) := ⟨rfl, rfl, rfl, by decide +kernel, rfl, by decide +kernel, by decide +kernel⟩
theorem scShelfDoorsX : FnScope ["self", "value"] ["self", "value"] (defScope sShelfDoorsX) := ⟨rfl, rfl, rfl, by decide +kernel, rfl, by decide +kernel, by decide +kernel⟩
theorem scShelfPut : FnScope ["self", "text"] ["self", "text"] (defScope sShelfPut) := ⟨rfl, rfl, rfl, by decide +kernel, rfl, by decide +kernel, by decide +kernel⟩
theorem scShelfFind : FnScope ["self", "text"] ["self", "text"] (defScope sShelfFind) := ⟨rfl, rfl, rfl, by decide +kernel, rfl, by decide +kernel, by decide +kernel⟩
theorem scShelfStrike : FnScope ["self", "text", "form"] ["self", "text"] (defScope sShelfStrike) := ⟨rfl, rfl, rfl, by decide +kernel, rfl, by decide +kernel, by decide +kernel⟩
theorem scShelfPutAll : FnScope ["self", "texts", "added", "told", "text", "form"] ["self", "texts"] (defScope sShelfPutAll) := ⟨rfl, rfl, rfl, by decide +kernel, rfl, by decide +kernel, by decide +kernel⟩
theorem scShelfTrial : FnScope ["self", "texts"] ["self", "texts"] (defScope sShelfTrial) := ⟨rfl, rfl, rfl, by decide +kernel, rfl, by decide +kernel, by decide +kernel⟩
theorem scShelfChange : FnScope ["self", "doors", "rows", "_", "text", "form"] ["self", "doors"] (defScope sShelfChange) := ⟨rfl, rfl, rfl, by decide +kernel, rfl, by decide +kernel, by decide +kernel⟩
theorem scShelfUndo : FnScope ["self", "doors", "table", "added", "struck", "form", "row"] ["self"] (defScope sShelfUndo) := ⟨rfl, rfl, rfl, by decide +kernel, rfl, by decide +kernel, by decide +kernel⟩
theorem scShelfForms : FnScope ["self"] ["self"] (defScope sShelfForms) := ⟨rfl, rfl, rfl, by decide +kernel, rfl, by decide +kernel, by decide +kernel⟩
theorem scShelfFirstText : FnScope ["self", "form"] ["self", "form"] (defScope sShelfFirstText) := ⟨rfl, rfl, rfl, by decide +kernel, rfl, by decide +kernel, by decide +kernel⟩
theorem scShelfFormPut : FnScope ["self", "text"] ["self", "text"] (defScope sShelfFormPut) := ⟨rfl, rfl, rfl, by decide +kernel, rfl, by decide +kernel, by decide +kernel⟩
theorem scShelfEnter : FnScope ["self", "form", "text"] ["self", "form", "text"] (defScope sShelfEnter) := ⟨rfl, rfl, rfl, by decide +kernel, rfl, by decide +kernel, by decide +kernel⟩
theorem scShelfNote : FnScope ["self", "added", "struck"] ["self", "added", "struck"] (defScope sShelfNote) := ⟨rfl, rfl, rfl, by decide +kernel, rfl, by decide +kernel, by decide +kernel⟩
theorem scCheckText : FnScope ["value"] ["value"] (defScope sCheckText) := ⟨rfl, rfl, rfl, by decide +kernel, rfl, by decide +kernel, by decide +kernel⟩
theorem scCheckTexts : FnScope ["value", "text"] ["value"] (defScope sCheckTexts) := ⟨rfl, rfl, rfl, by decide +kernel, rfl, by decide +kernel, by decide +kernel⟩
theorem scDoorsInit : FnScope ["self", "put", "find", "strike", "wish"] ["self", "put", "find", "strike", "wish"] (defScope sDoorsInit) := ⟨rfl, rfl, rfl, by decide +kernel, rfl, by decide +kernel, by decide +kernel⟩
theorem scDoorsEq : FnScope ["self", "other", "doors"] ["self", "other"] (defScope sDoorsEq) := ⟨rfl, rfl, rfl, by decide +kernel, rfl, by decide +kernel, by decide +kernel⟩
theorem scDoorsPut : FnScope ["self"] ["self"] (defScope sDoorsPut) := ⟨rfl, rfl, rfl, by decide +kernel, rfl, by decide +kernel, by decide +kernel⟩
theorem scDoorsFind : FnScope ["self"] ["self"] (defScope sDoorsFind) := ⟨rfl, rfl, rfl, by decide +kernel, rfl, by decide +kernel, by decide +kernel⟩
theorem scDoorsStrike : FnScope ["self"] ["self"] (defScope sDoorsStrike) := ⟨rfl, rfl, rfl, by decide +kernel, rfl, by decide +kernel, by decide +kernel⟩
theorem scDoorsWish : FnScope ["self"] ["self"] (defScope sDoorsWish) := ⟨rfl, rfl, rfl, by decide +kernel, rfl, by decide +kernel, by decide +kernel⟩
theorem scDoorsFolded : FnScope ["self", "names"] ["self", "names"] (defScope sDoorsFolded) := ⟨rfl, rfl, rfl, by decide +kernel, rfl, by decide +kernel, by decide +kernel⟩
theorem scFoldingInit : FnScope ["self", "steps", "at", "step"] ["self", "steps"] (defScope sFoldingInit) := ⟨rfl, rfl, rfl, by decide +kernel, rfl, by decide +kernel, by decide +kernel⟩
theorem scFoldingCall : FnScope ["self", "text"] ["self", "text"] (defScope sFoldingCall) := ⟨rfl, rfl, rfl, by decide +kernel, rfl, by decide +kernel, by decide +kernel⟩
theorem scFoldingGetitem : FnScope ["self", "at"] ["self", "at"] (defScope sFoldingGetitem) := ⟨rfl, rfl, rfl, by decide +kernel, rfl, by decide +kernel, by decide +kernel⟩
theorem scFoldingIter : FnScope ["self"] ["self"] (defScope sFoldingIter) := ⟨rfl, rfl, rfl, by decide +kernel, rfl, by decide +kernel, by decide +kernel⟩
theorem scFoldingLen : FnScope ["self"] ["self"] (defScope sFoldingLen) := ⟨rfl, rfl, rfl, by decide +kernel, rfl, by decide +kernel, by decide +kernel⟩
theorem scFoldingEq : FnScope ["self", "other"] ["self", "other"] (defScope sFoldingEq) := ⟨rfl, rfl, rfl, by decide +kernel, rfl, by decide +kernel, by decide +kernel⟩
theorem scFoldingAdd : FnScope ["self", "other"] ["self", "other"] (defScope sFoldingAdd) := ⟨rfl, rfl, rfl, by decide +kernel, rfl, by decide +kernel, by decide +kernel⟩
theorem scFoldingContains : FnScope ["self", "x"] ["self", "x"] (defScope sFoldingContains) := ⟨rfl, rfl, rfl, by decide +kernel, rfl, by decide +kernel, by decide +kernel⟩
theorem scFoldingSteps : FnScope ["self"] ["self"] (defScope sFoldingSteps) := ⟨rfl, rfl, rfl, by decide +kernel, rfl, by decide +kernel, by decide +kernel⟩
theorem scFoldingWithout : FnScope ["self", "index"] ["self", "index"] (defScope sFoldingWithout) := ⟨rfl, rfl, rfl, by decide +kernel, rfl, by decide +kernel, by decide +kernel⟩
theorem scLawWell : FnScope ["script", "k", "cell", "deep"] ["script", "k"] (defScope sLawWell) := ⟨rfl, rfl, rfl, by decide +kernel, rfl, by decide +kernel, by decide +kernel⟩
theorem scLawDraw : FnScope ["well", "many", "found", "turn", "mixed"] ["well", "many"] (defScope sLawDraw) := ⟨rfl, rfl, rfl, by decide +kernel, rfl, by decide +kernel, by decide +kernel⟩
theorem scLawChars : FnScope [] [] (defScope sLawChars) := ⟨rfl, rfl, rfl, by decide +kernel, rfl, by decide +kernel, by decide +kernel⟩
theorem scLawPool : FnScope ["well", "chars", "letter", "more", "k"] ["well"] (defScope sLawPool) := ⟨rfl, rfl, rfl, by decide +kernel, rfl, by decide +kernel, by decide +kernel⟩
theorem scLawCharacter : FnScope ["well", "pool"] ["well", "pool"] (defScope sLawCharacter) := ⟨rfl, rfl, rfl, by decide +kernel, rfl, by decide +kernel, by decide +kernel⟩
theorem scLawStep : FnScope ["well", "pool", "way", "found", "turn", "one"] ["well", "pool"] (defScope sLawStep) := ⟨rfl, rfl, rfl, by decide +kernel, rfl, by decide +kernel, by decide +kernel⟩
theorem scLawSteps : FnScope ["well", "pool", "turn"] ["well", "pool"] (defScope sLawSteps) := ⟨rfl, rfl, rfl, by decide +kernel, rfl, by decide +kernel, by decide +kernel⟩
theorem scLawDoors : FnScope ["well", "pool", "base", "found", "turn", "way", "spot", "steps"] ["well", "pool"] (defScope sLawDoors) := ⟨rfl, rfl, rfl, by decide +kernel, rfl, by decide +kernel, by decide +kernel⟩
theorem scLawFold : FnScope ["steps", "text", "step", "one"] ["steps", "text"] (defScope sLawFold) := ⟨rfl, rfl, rfl, by decide +kernel, rfl, by decide +kernel, by decide +kernel⟩
theorem scLawText : FnScope ["well", "pool", "used", "way", "text", "spot", "size", "turn"] ["well", "pool", "used"] (defScope sLawText) := ⟨rfl, rfl, rfl, by decide +kernel, rfl, by decide +kernel, by decide +kernel⟩
theorem scLawSame : FnScope ["actual", "expected", "k"] ["actual", "expected"] (defScope sLawSame) := ⟨rfl, rfl, rfl, by decide +kernel, rfl, by decide +kernel, by decide +kernel⟩
theorem scLawPut : FnScope ["state", "text", "form", "row"] ["state", "text"] (defScope sLawPut) := ⟨rfl, rfl, rfl, by decide +kernel, rfl, by decide +kernel, by decide +kernel⟩
theorem scLawStrike : FnScope ["state", "text", "form", "rest", "found", "row"] ["state", "text"] (defScope sLawStrike) := ⟨rfl, rfl, rfl, by decide +kernel, rfl, by decide +kernel, by decide +kernel⟩
theorem scLawFind : FnScope ["state", "text", "row"] ["state", "text"] (defScope sLawFind) := ⟨rfl, rfl, rfl, by decide +kernel, rfl, by decide +kernel, by decide +kernel⟩
theorem scLawPutAll : FnScope ["state", "texts", "before", "found", "text"] ["state", "texts"] (defScope sLawPutAll) := ⟨rfl, rfl, rfl, by decide +kernel, rfl, by decide +kernel, by decide +kernel⟩
theorem scLawChange : FnScope ["state", "four", "rows", "known", "row", "form"] ["state", "four"] (defScope sLawChange) := ⟨rfl, rfl, rfl, by decide +kernel, rfl, by decide +kernel, by decide +kernel⟩
theorem scLawUndo : FnScope ["state", "past"] ["state"] (defScope sLawUndo) := ⟨rfl, rfl, rfl, by decide +kernel, rfl, by decide +kernel, by decide +kernel⟩
theorem scLawGates : FnScope ["four"] ["four"] (defScope sLawGates) := ⟨rfl, rfl, rfl, by decide +kernel, rfl, by decide +kernel, by decide +kernel⟩
theorem scLawFormsAre : FnScope ["shelf", "state", "turn", "forms", "ask", "way", "told", "row"] ["shelf", "state", "turn"] (defScope sLawFormsAre) := ⟨rfl, rfl, rfl, by decide +kernel, rfl, by decide +kernel, by decide +kernel⟩
theorem scLawFound : FnScope ["shelf", "state", "texts", "text", "due", "told"] ["shelf", "state", "texts"] (defScope sLawFound) := ⟨rfl, rfl, rfl, by decide +kernel, rfl, by decide +kernel, by decide +kernel⟩
theorem scLawStart : FnScope ["script", "many", "well", "pool", "shelves", "states", "turn", "four"] ["script", "many"] (defScope sLawStart) := ⟨rfl, rfl, rfl, by decide +kernel, rfl, by decide +kernel, by decide +kernel⟩
theorem scLawUsed : FnScope ["used", "text"] ["used", "text"] (defScope sLawUsed) := ⟨rfl, rfl, rfl, by decide +kernel, rfl, by decide +kernel, by decide +kernel⟩
theorem scLawBadText : FnScope ["well", "text", "signs", "spot", "sign", "short", "found"] ["well", "text"] (defScope sLawBadText) := ⟨rfl, rfl, rfl, by decide +kernel, rfl, by decide +kernel, by decide +kernel⟩
theorem scLawRefused : FnScope ["shelf", "way", "thing", "own"] ["shelf", "way", "thing"] (defScope sLawRefused) := ⟨rfl, rfl, rfl, by decide +kernel, rfl, by decide +kernel, by decide +kernel⟩
theorem scLawBased : FnScope ["shelf", "thing", "found", "e"] ["shelf", "thing"] (defScope sLawBased) := ⟨rfl, rfl, rfl, by decide +kernel, rfl, by decide +kernel, by decide +kernel⟩
theorem scLawNothing : FnScope ["shelf", "found"] ["shelf"] (defScope sLawNothing) := ⟨rfl, rfl, rfl, by decide +kernel, rfl, by decide +kernel, by decide +kernel⟩
theorem scLaw : FnScope ["script", "well", "pool", "shelves", "states", "shelf", "state", "used", "k", "turn", "way", "back", "text", "thing", "told", "ask"] ["script"] (defScope sLaw) := ⟨rfl, rfl, rfl, by decide +kernel, rfl, by decide +kernel, by decide +kernel⟩
end Pd

set_option maxHeartbeats 4000000
namespace Pd
open PySem PySem.Spec PyProof.Rows L2 SX
/-! ### bundles -/
/-- a def that may be called by its name, all its arguments by position -/
structure Cl (P : Program) (w : World) (K : PySem.W.Frag) (mg : Str → Option Value) (base : Heap) (k : Nat) (x : Str) (sp : Sp) : Prop where
  ex : ∃ (f : Addr) (fd : FuncData) (ps : List Str), FnOk P w K mg base CX0 k f fd ps sp ∧ mg x = some (.ref f) ∧ PySem.W.keepIn K (.ref f) = true ∧ Binds K fd ps []
/-- .. that gives a new text -/
structure ClT (P : Program) (w : World) (K : PySem.W.Frag) (mg : Str → Option Value) (base : Heap) (k : Nat) (x : Str) (sp : Sp) : Prop where
  ex : ∃ (f : Addr), FnT P w K mg base CX0 k f sp ∧ mg x = some (.ref f) ∧ PySem.W.keepIn K (.ref f) = true
/-- a def as it stands behind the top -/
structure Df (K : PySem.W.Frag) (mg : Str → Option Value) (x : Str) (st : Stmt) (f : Addr) (fd : FuncData) : Prop where
  fn : Fun K x x st f fd
  mgf : mg x = some (.ref f)
  kp : PySem.W.keepIn K (.ref f) = true
def E0 : XK := fun _ _ _ => False
section
variable {X : Cx} {k j : Nat} {x : Str} {sp : Sp} {p pos : Pos} {e : Expr} {es : List Expr} {t : TA}
theorem pe_cl (c : Cl X.prog X.w X.K X.mg X.base k x sp) (hr : Room j X.A) (hk : k ≤ j) (hg : Gl X x) (ha : PA X (e :: es) t)
    (hdb : (x == ("__debug__" : Str)) = false := by decide) (he : starEach (e :: es) X.env = (false, eval e X.env) :: starEach es X.env := by rfl) (hpl : (backTo pos (starEach es X.env)).any (·.1) = false := by rfl) :
    PE X (.Call (.Name x p) (e :: es) [] pos) (tCall sp [] E0 t) := by
  obtain ⟨f, fd, ps, F, hm, kp, b⟩ := c.ex
  exact pe_call F (hr.mono hk) hg hm kp b .nil pass0 ha hdb he hpl
theorem pef_cl (c : ClT X.prog X.w X.K X.mg X.base k x sp) (hr : Room j X.A) (hk : k ≤ j) (hg : Gl X x) (ha : PA X (e :: es) t)
    (hdb : (x == ("__debug__" : Str)) = false := by decide) (he : starEach (e :: es) X.env = (false, eval e X.env) :: starEach es X.env := by rfl) (hpl : (backTo pos (starEach es X.env)).any (·.1) = false := by rfl) :
    PEF X (.Call (.Name x p) (e :: es) [] pos) (fun σ H Q => t σ H fun vs H1 => sp vs H1 Q E0) := by
  obtain ⟨f, F, hm, kp⟩ := c.ex
  exact pef_call F (hr.mono hk) hg hm kp pass0 ha hdb he hpl
end
/-! ### what the top has bound -/
structure Nms (mg : Str → Option Value) : Prop where
  len : mg "len" = none
  int : mg "int" = none
  abs : mg "abs" = none
  max : mg "max" = none
  min : mg "min" = none
  range : mg "range" = none
  isi : mg "isinstance" = none
  str : mg "str" = none
  tuple : mg "tuple" = none
  bool : mg "bool" = none
  all : mg "all" = none
  set : mg "set" = none
  enum : mg "enumerate" = none
theorem powW_ok2 {i j : Int} {a : Nat} (h : i.natAbs < 2 ^ a) (h0 : 0 < a) (hj : 0 ≤ j) (hj2 : j ≤ 1000) (ha : a ≤ 100000) : CPowW i j := by
  refine ⟨hj, ?_⟩
  have e := bits_lt h h0
  have e2 : (Builtin.Int.intBits i : Int) ≤ 100000 := by omega
  have e3 : (0:Int) ≤ (Builtin.Int.intBits i : Int) := by omega
  have : (Builtin.Int.intBits i : Int) * j ≤ 100000 * 1000 := Int.mul_le_mul e2 hj2 hj (by omega)
  omega
theorem p36 : (10 : Int) ^ (36 : Int).toNat + 67 = 1000000000000000000000000000000000067 := by decide +kernel
theorem p18 : (10 : Int) ^ (18 : Int).toNat = 1000000000000000000 := by decide +kernel
theorem p42 : (10 : Int) ^ (42 : Int).toNat + 63 = 1000000000000000000000000000000000000000063 := by decide +kernel
theorem p40 : (10 : Int) ^ (40 : Int).toNat + 121 = 10000000000000000000000000000000000000121 := by decide +kernel
theorem p6 : (10 : Int) ^ (6 : Int).toNat = 1000000 := by decide +kernel
/-! ### heaps -/
/-- only the object at j may have changed -/
def Kp (j : Addr) (H H' : Hp) : Prop := ∀ b o, b ≠ j → H b = some o → H' b = some o
theorem Kp.refl {j : Addr} {H : Hp} : Kp j H H := fun _ _ _ h => h
theorem Kp.trans {j : Addr} {H H' H'' : Hp} (a : Kp j H H') (b : Kp j H' H'') : Kp j H H'' := fun c o n h => b c o n (a c o n h)
theorem Kp.upd {j : Addr} {H : Hp} {o : HO} : Kp j H (upd H j o) := fun b u n h => by rw [upd_ne n]; exact h
theorem Kp.new {j l : Addr} {H H' : Hp} {o : HO} (a : Kp j H H') (hl : H' l = none) : Kp j H (L2.upd H' l o) := fun b u n h => by
  rw [upd_ne (ne_of_none (a b u n h) hl)]
  exact a b u n h
/-- the jar: its three numbers; at most n draws so far -/
def JarAt (H : Hp) (j : Addr) (n : Nat) : Prop := ∃ a b c : Int, H j = some (.lst [.int a, .int b, .int c]) ∧ 0 ≤ a ∧ 0 ≤ b ∧ b < 10 ^ 40 ∧ 0 ≤ c ∧ c ≤ n
theorem JarAt.le {H : Hp} {j : Addr} {n m : Nat} (h : JarAt H j n) (l : n ≤ m) : JarAt H j m := by
  obtain ⟨a, b, c, h1, h2, h3, h4, h5, h6⟩ := h
  exact ⟨a, b, c, h1, h2, h3, h4, h5, by omega⟩
theorem JarAt.new {H : Hp} {j l : Addr} {n : Nat} {o : HO} (h : JarAt H j n) (hl : H l = none) : JarAt (L2.upd H l o) j n := by
  obtain ⟨a, b, c, h1, r⟩ := h
  exact ⟨a, b, c, by rw [upd_ne (ne_of_none h1 hl)]; exact h1, r⟩
/-! ### promises -/
def spJar (K : PySem.W.Frag) : Sp := fun vs H Q _ => ∃ (a : Addr) (ns : List Int) (k : Int), vs = [.ref a, .int k] ∧ SqL K H a (ns.map V.int) ∧ ns.length ≤ 63 ∧ 0 ≤ k ∧ k < 100 ∧
  ∀ j H', H j = none → JarAt H' j 0 → (∀ b o, H b = some o → H' b = some o) → Q (.ref j) H'
def spDraw : Sp := fun vs H Q _ => ∃ (j : Addr) (m : Int) (n : Nat), vs = [.ref j, .int m] ∧ JarAt H j n ∧ n < 1000000 ∧ 1 ≤ m ∧ m ≤ 100000000000000000000000000000000000000000000000000 ∧
  ∀ r H', 0 ≤ r → r < m → JarAt H' j (n + 1) → Kp j H H' → Q (.int r) H'
def spSign : Sp := fun vs H Q _ => ∃ (j : Addr) (n : Nat), vs = [.ref j] ∧ JarAt H j n ∧ n < 1000000 ∧
  ∀ c H', c ∈ CH → JarAt H' j (n + 1) → Kp j H H' → Q (.str ⟨#[c]⟩) H'
section
variable {P : Program} {w : World} {K : PySem.W.Frag} {mg : Str → Option Value} {base : Heap}
def jarT : TE := (tLst (tCons (tCB (fun xs H Q => ∃ i j, xs = [V.int i, V.int j] ∧ Q (V.int (if j > i then j else i)) H)
            (tCons (tC (V.int 0)) (tCons (tOp (rI0 fun i j => V.int (i - j)) (tVar 2) (tOp (rI CPowW fun i j => V.int (i ^ j.toNat)) (tC (V.int 10)) (tC (V.int 18)))) tNil)))
          (tCons (tOp (rI0 fun i j => V.int (i + j)) (tOp (rI (fun _ j => 0 < j) fun i j => V.int (i % j))
                (tCB (fun xs H Q => (∃ i, xs = [V.int i] ∧ Q (V.int i) H) ∨ ∃ k, xs = [V.bl k] ∧ Q (V.int (if k = true then 1 else 0)) H) (tCons (tVar 2) tNil))
                (tOp (rI0 fun i j => V.int (i + j)) (tOp (rI CPowW fun i j => V.int (i ^ j.toNat)) (tC (V.int 10)) (tC (V.int 36))) (tC (V.int 67))))
              (tOp (rI CMul fun i j => V.int (i * j)) (tC (V.int 1299709)) (tVar 1)))
            (tCons (tC (V.int 0)) tNil))))
theorem jar_tail {a : Addr} {k z : Int} {H : Hp} {Q : VK} (hk0 : 0 ≤ k) (hk1 : k < 100) (hz0 : 0 ≤ z) (q : ∀ j H', H j = none → JarAt H' j 0 → (∀ b o, H b = some o → H' b = some o) → Q (.ref j) H') :
    jarT [some (.ref a), some (.int k), some (.int z)] H Q := by
  have pw : ∀ e : Int, 0 ≤ e → e ≤ 1000 → CPowW 10 e := fun e h0 h1 => powW_ok2 (a := 4) (by decide) (by decide) h0 h1 (by decide)
  refine ⟨_, rfl, _, _, rfl, rfl, pw 18 (by decide) (by decide), _, _, rfl, rfl, _, _, rfl, _, rfl, .inl ⟨_, rfl, _, _, rfl, rfl, pw 36 (by decide) (by decide), _, _, rfl, rfl, _, _, rfl, rfl, (show (0:Int) < 10 ^ (36 : Int).toNat + 67 by rw [p36]; decide),
    _, rfl, _, _, rfl, rfl, .inl ⟨by decide, by decide⟩, _, _, rfl, rfl, by show 3 ≤ sizeLine; decide, fun l hl => ?_⟩⟩
  refine q l _ hl ⟨_, _, _, upd_same, ?_, ?_, ?_, by decide, by decide⟩ fun b o h => by rw [upd_ne (ne_of_none h hl)]; exact h
  · split <;> omega
  · rw [p36]; omega
  · rw [p36]; omega
end
end Pd

set_option maxHeartbeats 4000000
namespace Pd
open PySem PySem.Spec PyProof.Rows L2 SX
def sg (c : Nat) : Str := ⟨#[c]⟩
theorem sg_S (c : Nat) : sg c = S [c] := rfl
/-- eight signs, in a list whose tokens are known -/
structure SgnsAt (H : Hp) (a : Addr) (gs : List Nat) : Prop where
  at_ : TxtsAt H a (gs.map sg)
  len : gs.length = 8
  ok : ∀ c ∈ gs, c ∈ CH
theorem SgnsAt.kp {H H' : Hp} {j a : Addr} {gs : List Nat} (h : SgnsAt H a gs) (k : Kp j H H') (hj : ∃ xs, H j = some (.lst xs)) : SgnsAt H' a gs := by
  refine ⟨?_, h.len, h.ok⟩
  obtain ⟨its, n, m, q, e, r⟩ := h.at_
  obtain ⟨xs, hj⟩ := hj
  have ne : a ≠ j := by rintro rfl; rw [e] at hj; cases hj
  exact ⟨its, n, m, q, k a _ ne e, r⟩
theorem SgnsAt.new {H : Hp} {l a : Addr} {gs : List Nat} {o : HO} (h : SgnsAt H a gs) (hl : H l = none) : SgnsAt (L2.upd H l o) a gs := by
  refine ⟨?_, h.len, h.ok⟩
  obtain ⟨its, n, m, q, e, r⟩ := h.at_
  exact ⟨its, n, m, q, by rw [upd_ne (ne_of_none e hl)]; exact e, r⟩
theorem SgnsAt.ne {H : Hp} {j a : Addr} {gs : List Nat} {xs : List V} (h : SgnsAt H a gs) (hj : H j = some (.lst xs)) : a ≠ j := by
  obtain ⟨its, n, m, q, e, r⟩ := h.at_
  rintro rfl; rw [e] at hj; cases hj
theorem JarAt.lst {H : Hp} {j : Addr} {n : Nat} (h : JarAt H j n) : ∃ xs, H j = some (.lst xs) := by
  obtain ⟨a, b, c, h1, _⟩ := h
  exact ⟨_, h1⟩
theorem JarAt.kp {H H' : Hp} {j : Addr} {n : Nat} (h : JarAt H j n) (e : H' j = H j) : JarAt H' j n := by
  obtain ⟨a, b, c, h1, r⟩ := h
  exact ⟨a, b, c, e.trans h1, r⟩
theorem S_at {l : List Nat} {i : Nat} (h : i < l.length) : (S l).cps[i]? = some l[i] := by
  show l.toArray[i]? = _
  simp [h]
theorem abc_S : ("abcdefghijklmnopqrstuvwxyz" : Str) = S (CH.take 26) := by decide +kernel
theorem digits_S : ("0123456789" : Str) = S ((CH.drop 52).take 10) := by decide +kernel
theorem small_CH : ∀ c ∈ CH.take 26, c ∈ CH ∧ c < 128 ∧ up1 c ∈ CH := by decide
theorem dig_CH : ∀ c ∈ (CH.drop 52).take 10, c ∈ CH := by decide
def spSigns : Sp := fun vs H Q _ => ∃ (j : Addr) (n : Nat), vs = [.ref j] ∧ JarAt H j n ∧ n + 6 < 1000000 ∧
  ∀ p gs H', H p = none → SgnsAt H' p gs → JarAt H' j (n + 6) → Kp j H H' → Q (.ref p) H'
theorem upper_sg {c : Nat} (h : c < 128) : Txt.upper (sg c) = sg (up1 c) := upper_S (a := [c]) (by simpa using h)
section
variable {P : Program} {w : World} {K : PySem.W.Frag} {mg : Str → Option Value} {base : Heap}
end
end Pd

set_option maxHeartbeats 4000000
namespace Pd
open PySem PySem.Spec PyProof.Rows L2 SX
/-! ### repeated texts -/
theorem fold_rep (x : List Nat) : ∀ (k : Nat) (acc : Array Nat), ∃ m : List Nat, ((List.replicate k x.toArray).foldl (· ++ ·) acc) = (acc.toList ++ m).toArray ∧ m.length = k * x.length ∧ ∀ c ∈ m, c ∈ x
  | 0, acc => ⟨[], by simp, by simp, fun _ h => nomatch h⟩
  | k + 1, acc => by
    obtain ⟨m, e, l, h⟩ := fold_rep x k (acc ++ x.toArray)
    refine ⟨x ++ m, ?_, by rw [List.length_append, l, Nat.add_one_mul]; omega, fun c hc => ?_⟩
    · rw [List.replicate_succ, List.foldl_cons, e]
      simp
    · rcases List.mem_append.mp hc with hc | hc
      · exact hc
      · exact h c hc
theorem mul_S (l : List Nat) {n : Int} (h0 : 0 ≤ n) : ∃ m : List Nat, Txt.mul (S l) n = S m ∧ m.length ≤ n.toNat * l.length ∧ ∀ c ∈ m, c ∈ l := by
  unfold Txt.mul
  split
  · exact ⟨[], rfl, by simp, fun _ h => nomatch h⟩
  · split
    · refine ⟨l, rfl, ?_, fun _ h => h⟩
      have : 1 ≤ n.toNat := by omega
      calc l.length = 1 * l.length := (Nat.one_mul _).symm
        _ ≤ n.toNat * l.length := Nat.mul_le_mul_right _ this
    · obtain ⟨m, e, hl, hm⟩ := fold_rep l n.toNat #[]
      refine ⟨m, ?_, Nat.le_of_eq hl, hm⟩
      show (⟨(List.replicate n.toNat l.toArray).foldl (· ++ ·) #[]⟩ : Str) = _
      rw [e]
      simp [S]
theorem mulOk_S {l : List Nat} {n : Int} (h0 : 0 ≤ n) (h1 : n ≤ 60) (hl : l.length ≤ 1000) : PySem.MulOk (S l) n := by
  refine ⟨?_, fun h2 _ => ?_, fun h2 _ => ?_⟩
  · rw [decide_eq_false (by omega), decide_eq_false (by omega)]; rfl
  · rw [S_len]
    intro h3
    have h5 : (l.length : Int) * n ≤ 1000 * 60 := Int.mul_le_mul (by omega) h1 h0 (by omega)
    have h6 : (l.length : Int) ≤ (2 ^ 63 - 1 : Int) / n := Int.le_ediv_of_mul_le (by omega) (by omega)
    omega
  · rw [S_len]
    refine PyProof.Rows.short24 ?_
    have : l.length * n.toNat ≤ 1000 * 60 := Nat.mul_le_mul hl (by omega)
    omega

def spText : Sp := fun vs H Q _ => ∃ (j a : Addr) (n : Nat) (gs : List Nat), vs = [.ref j, .ref a] ∧ JarAt H j n ∧ SgnsAt H a gs ∧ n + 100 < 1000000 ∧
  ∀ l H', Good l → JarAt H' j (n + 100) → Kp j H H' → Q (.str (S l)) H'
theorem SgnsAt.item {H : Hp} {a : Addr} {gs : List Nat} (h : SgnsAt H a gs) {r : Int} (h0 : 0 ≤ r) (h1 : r < 8) : ∃ c ∈ CH, atI ((gs.map sg).map V.str) r = some (.str (sg c)) := by
  have e : r.toNat < gs.length := by rw [h.len]; omega
  refine ⟨gs[r.toNat], h.ok _ (List.getElem_mem e), ?_⟩
  have z := atI_nat (xs := (gs.map sg).map V.str) (j := r.toNat) (v := .str (sg gs[r.toNat])) (by simp [e])
  have e2 : ((r.toNat : Nat) : Int) = r := by omega
  rw [e2] at z
  exact z
theorem SgnsAt.len' {H : Hp} {a : Addr} {gs : List Nat} (h : SgnsAt H a gs) : (((gs.map sg).map V.str).length : Int) = 8 := by
  rw [List.length_map, List.length_map, h.len]; rfl
theorem four_item {r : Int} (h0 : 0 ≤ r) (h1 : r < 4) : ∃ m : Int, atI [V.int 1, V.int 1, V.int 2, V.int 5] r = some (.int m) ∧ 0 ≤ m ∧ m ≤ 5 := by
  obtain rfl | rfl | rfl | rfl : r = 0 ∨ r = 1 ∨ r = 2 ∨ r = 3 := by omega
  · exact ⟨1, rfl, by decide, by decide⟩
  · exact ⟨1, rfl, by decide, by decide⟩
  · exact ⟨2, rfl, by decide, by decide⟩
  · exact ⟨5, rfl, by decide, by decide⟩
section
variable {P : Program} {w : World} {K : PySem.W.Frag} {mg : Str → Option Value} {base : Heap}
end
end Pd

set_option maxHeartbeats 4000000
namespace Pd
open PySem PySem.Spec PyProof.Rows L2 SX
def spDropped : Sp := fun vs H Q _ => ∃ (j a : Addr) (n : Nat) (gs : List Nat), vs = [.ref j, .ref a] ∧ JarAt H j n ∧ SgnsAt H a gs ∧ n + 40 < 1000000 ∧
  ∀ cs H', Stp.ok (.drop cs) → JarAt H' j (n + 40) → Kp j H H' → Q (.str (S cs)) H'
theorem three_item {r : Int} (h0 : 0 ≤ r) (h1 : r < 3) : ∃ m : Int, atI [V.int 0, V.int 1, V.int 9] r = some (.int m) ∧ 0 ≤ m ∧ m ≤ 9 := by
  obtain rfl | rfl | rfl : r = 0 ∨ r = 1 ∨ r = 2 := by omega
  · exact ⟨0, rfl, by decide, by decide⟩
  · exact ⟨1, rfl, by decide, by decide⟩
  · exact ⟨9, rfl, by decide, by decide⟩
/-- a step in the heap -/
def stpVals : Stp → List V
  | .low => [.str "lower"]
  | .swap a b => [.str "swap", .str (sg a), .str (sg b)]
  | .drop cs => [.str "drop", .str (S cs)]
  | .lead a => [.str "lead", .str (sg a)]
  | .once a => [.str "once", .str (sg a)]
  | .cut n => [.str "cut", .int (n : Nat)]
/-- a step of once: a tuple, or one whose object is known -/
def OnceAt (H : Hp) (p : Addr) (a : Str) : Prop := H p = Option.some (.tup [.str "once", .str a]) ∨ ∃ o, H p = Option.some (.frz o (.tup [.str "once", .str a]))
def StpAt (H : Hp) (p : Addr) : Stp → Prop
  | .swap a b => SwapAt H p (sg a) (sg b)
  | .once a => OnceAt H p (sg a)
  | st => H p = some (.tup (stpVals st))
theorem StpAt.seq {K : PySem.W.Frag} {H : Hp} {p : Addr} {st : Stp} (h : StpAt H p st) : SqT K H p (stpVals st) := by
  cases st with
  | swap a b => exact SwapAt.seq h
  | low => exact SqT.of h
  | drop _ => exact SqT.of h
  | lead _ => exact SqT.of h
  | once _ =>
    rcases h with h | ⟨o, h⟩
    · exact SqT.of h
    · exact .inl (.inr ⟨o, h⟩)
  | cut _ => exact SqT.of h
theorem StpAt.some {H : Hp} {p : Addr} {st : Stp} (h : StpAt H p st) : ∃ o, H p = some o ∧ ∀ xs, o ≠ .lst xs := by
  cases st with
  | swap a b =>
    obtain ⟨n, t0, t, u, e, _⟩ := h
    exact ⟨_, e, fun _ h => nomatch h⟩
  | low => exact ⟨_, h, fun _ h => nomatch h⟩
  | drop _ => exact ⟨_, h, fun _ h => nomatch h⟩
  | lead _ => exact ⟨_, h, fun _ h => nomatch h⟩
  | once _ =>
    rcases h with h | ⟨o, h⟩
    · exact ⟨_, h, fun _ h => nomatch h⟩
    · exact ⟨_, h, fun _ h => nomatch h⟩
  | cut _ => exact ⟨_, h, fun _ h => nomatch h⟩
/-- what stands at p is the same -/
theorem StpAt.same {H H' : Hp} {p : Addr} {st : Stp} (h : StpAt H p st) (e : ∀ o, H p = Option.some o → H' p = Option.some o) : StpAt H' p st := by
  cases st with
  | swap a b => exact SwapAt.same h fun o u x => e _ x
  | low => exact e _ h
  | drop _ => exact e _ h
  | lead _ => exact e _ h
  | once _ =>
    rcases h with h | ⟨o, h⟩
    · exact .inl (e _ h)
    · exact .inr ⟨o, e _ h⟩
  | cut _ => exact e _ h
theorem StpAt.kp {H H' : Hp} {j p : Addr} {st : Stp} {xs : List V} (h : StpAt H p st) (k : Kp j H H') (hj : H j = Option.some (.lst xs)) : StpAt H' p st := by
  refine h.same fun o x => k p o ?_ x
  rintro rfl
  obtain ⟨o', x', ne⟩ := h.some
  rw [hj] at x'; cases x'
  exact ne _ rfl
theorem StpAt.new {H : Hp} {l p : Addr} {st : Stp} {o : HO} (h : StpAt H p st) (hl : H l = none) : StpAt (L2.upd H l o) p st :=
  h.same fun o x => by rw [upd_ne (ne_of_none x hl)]; exact x
def spStep : Sp := fun vs H Q _ => ∃ (j a : Addr) (n : Nat) (gs : List Nat), vs = [.ref j, .ref a] ∧ JarAt H j n ∧ SgnsAt H a gs ∧ n + 50 < 1000000 ∧
  ∀ p st H', H p = none → st.ok → StpAt H' p st → JarAt H' j (n + 50) → Kp j H H' → Q (.ref p) H'
theorem Kp.none {j p : Addr} {H H' : Hp} (k : Kp j H H') (hp : H' p = none) (hj : ∃ xs, H j = some (.lst xs)) (hj' : ∃ xs, H' j = some (.lst xs)) : H p = none := by
  cases h : H p with
  | none => rfl
  | some o =>
    by_cases e : p = j
    · subst e
      obtain ⟨xs, h'⟩ := hj'
      rw [h'] at hp; cases hp
    · rw [k p o e h] at hp; cases hp
section
variable {P : Program} {w : World} {K : PySem.W.Frag} {mg : Str → Option Value} {base : Heap}
end
end Pd

set_option maxHeartbeats 4000000
namespace Pd
open PySem PySem.Spec PyProof.Rows L2 SX
section
variable {P : Program} {w : World} {K : PySem.W.Frag} {mg : Str → Option Value} {base : Heap}
end
end Pd

set_option maxHeartbeats 4000000
namespace Pd
open PySem PySem.Spec PyProof.Rows L2 SX
/-! ### comprehensions over a text that give signs -/
def Ext (H H' : Hp) : Prop := ∀ b o, H b = some o → H' b = some o
theorem Ext.refl {H : Hp} : Ext H H := fun _ _ h => h
theorem Ext.trans {H H' H'' : Hp} (a : Ext H H') (b : Ext H' H'') : Ext H H'' := fun c o h => b c o (a c o h)
theorem Ext.new {H H' : Hp} {D : Addr} {o : HO} (a : Ext H H') (h : H D = none) : Ext H (upd H' D o) := fun b u e => by
  rw [upd_ne (ne_of_none e h)]; exact a b u e
theorem Ext.kp {H H' : Hp} {j : Addr} (a : Ext H H') : Kp j H H' := fun b o _ h => a b o h
theorem StpAt.ext {H H' : Hp} {p : Addr} {st : Stp} (h : StpAt H p st) (k : Ext H H') : StpAt H' p st := h.same fun o x => k p o x
theorem lc_text {l : List Nat} {g : TG} {tt : TT} {te : TE} {vs : List Nat} {σ : L2.St} {H1 : Hp} {D : Addr} {Qd : Hp → Prop} (f : Nat → Option Nat) (hl : l.length ≤ 1000) (hD : H1 D = none)
    (hs : ∀ c H acc (Nx : Hp → Prop), c ∈ l → Ext H1 H → H D = some (.lst acc) → acc.length < sizeLine →
      (∀ H', H' D = some (.lst (acc ++ ((f c).toList.map sg).map V.str)) → Ext H1 H' → Nx H') →
      g (.str (sg c)) (wipe σ vs) H fun σ2 H2 => wipe σ2 vs = wipe σ vs ∧ tt σ2 H2 fun b H3 =>
        if b = true then te σ2 H3 fun y H4 => ∃ acc', H4 D = some (.lst acc') ∧ acc'.length < sizeLine ∧ Nx (upd H4 D (.lst (acc' ++ [y]))) else Nx H3)
    (hd : ∀ H, H D = some (.lst (((l.filterMap f).map sg).map V.str)) → Ext H1 H → Qd H) :
    ∃ W : Nat → Nat → Hp → Prop, (∃ m, W 0 m (upd H1 D (.lst []))) ∧ ∀ i m H, W i m H →
      ((Its (S l)).stop i H ∧ Qd H) ∨ ((Its (S l)).go i H ∧ ∃ Nx : Hp → Prop, (∀ H', Nx H' → ∃ m', m' < m ∧ W (i + 1) m' H') ∧ ∀ x H', (Its (S l)).yld i H x H' → g x (wipe σ vs) H' fun σ2 H2 => wipe σ2 vs = wipe σ vs ∧ tt σ2 H2 fun b H3 =>
        if b = true then te σ2 H3 fun y H4 => ∃ acc, H4 D = some (.lst acc) ∧ acc.length < sizeLine ∧ Nx (upd H4 D (.lst (acc ++ [y]))) else Nx H3) := by
  have hsz : (S l).cps.size = l.length := by simp [S]
  have key := lc_it (g := g) (tt := tt) (te := te) (vs := vs) (σ := σ) (H1 := H1) (D := D) (Qd := Qd) (walk_str (z := S l))
    (fun i H => H D = some (.lst ((((l.take i).filterMap f).map sg).map V.str)) ∧ Ext H1 H) ⟨by rw [List.take_zero]; exact upd_same, Ext.refl.new hD⟩ (fun _ _ _ _ => trivial) ?_ ?_
  · exact key
  · rintro i x H H' hi ⟨h1, h2⟩ ⟨rfl, c, hc, rfl⟩
    have hc' : l[i]? = some c := by simpa [S] using hc
    have hil : i < l.length := (List.getElem?_eq_some_iff.mp hc').1
    have hb : ∀ k, (((l.take k).filterMap f).map sg).length ≤ 1000 := fun k => by
      rw [List.length_map]
      exact Nat.le_trans (List.length_filterMap_le _ _) (Nat.le_trans (List.length_take_le' _ _) hl)
    refine hs c H' _ _ (List.mem_of_getElem? hc') h2 h1 (by rw [List.length_map, sizeLine_eq]; have := hb i; omega) fun H'' e1 e2 => ⟨?_, e2⟩
    rw [e1, List.take_succ, hc', List.filterMap_append, List.map_append, List.map_append]
    congr 4
  · rintro H ⟨h1, h2⟩
    rw [hsz, List.take_length] at h1
    exact hd H h1 h2
theorem joinL_sg : ∀ m : List Nat, TL.joinL [] (m.map fun c => [c]) = m
  | [] => rfl
  | [c] => rfl
  | c :: d :: r => by
    have ih := joinL_sg (d :: r)
    show [c] ++ ([] ++ TL.joinL [] ((d :: r).map fun c => [c])) = c :: d :: r
    rw [ih]
    rfl
theorem join_sg (m : List Nat) : Txt.join "" (m.map sg) = S m := by
  have e : m.map sg = (m.map fun c => [c]).map S := by rw [List.map_map]; rfl
  have e2 : ("" : Str) = S [] := rfl
  rw [e, e2, join_S, joinL_sg]
theorem sum_sg (m : List Nat) : ((m.map sg).map (·.length)).sum = m.length := by
  induction m with
  | nil => rfl
  | cons c m ih =>
    rw [List.map_cons, List.map_cons, List.sum_cons, ih, List.length_cons]
    show 1 + m.length = m.length + 1
    omega
/-- what join asks of such a list -/
theorem join_ask {K : PySem.W.Frag} {H : Hp} {p : Addr} {m : List Nat} {Q : VK} (h : H p = some (.lst ((m.map sg).map V.str))) (hl : m.length ≤ 1000) (q : Q (.str (S m)) H) :
    ∃ a p', ∃ ys : List Str, V.str "" = .str a ∧ [V.ref p] = [.ref p'] ∧ (SqL K H p' (ys.map V.str) ∨ SqT K H p' (ys.map V.str)) ∧
      (ys.map (·.length)).sum + ys.length * a.length ≤ 16777216 ∧ Q (.str (Txt.join a ys)) H := by
  refine ⟨_, p, m.map sg, rfl, rfl, .inl (SqL.of h), ?_, by rw [join_sg]; exact q⟩
  rw [sum_sg, List.length_map]
  show m.length + m.length * 0 ≤ 16777216
  omega
/-! ### the letters' places -/
theorem ABC_S : ("ABCDEFGHIJKLMNOPQRSTUVWXYZ" : Str) = S ((CH.drop 26).take 26) := by decide +kernel
theorem find_CH : ∀ c ∈ CH, Txt.find "ABCDEFGHIJKLMNOPQRSTUVWXYZ" (sg c) = if 65 ≤ c ∧ c ≤ 90 then ((c : Int) - 65) else -1 := by decide +kernel
theorem abc_at : ∀ c ∈ CH, 65 ≤ c ∧ c ≤ 90 → (CH.take 26)[c - 65]? = some (c + 32) := by decide +kernel
def spSmall : Sp := fun vs H Q _ => ∃ c, vs = [.str (sg c)] ∧ c ∈ CH ∧ Q (.str (sg (lowC c))) H
section
variable {P : Program} {w : World} {K : PySem.W.Frag} {mg : Str → Option Value} {base : Heap}
end
end Pd

set_option maxHeartbeats 4000000
namespace Pd
open PySem PySem.Spec PyProof.Rows L2 SX
def wordOf : Stp → Str
  | .low => "lower" | .swap _ _ => "swap" | .drop _ => "drop" | .lead _ => "lead" | .once _ => "once" | .cut _ => "cut"
theorem word_at (st : Stp) : atI (stpVals st) 0 = some (.str (wordOf st)) := by cases st <;> rfl
def spMade : Sp := fun vs H Q _ => ∃ (p : Addr) (st : Stp) (l : List Nat), vs = [.ref p, .str (S l)] ∧ StpAt H p st ∧ st.ok ∧ Good l ∧ ∀ H', Ext H H' → Q (.str (S (mk st l))) H'
theorem fm_map (f : Nat → Nat) (l : List Nat) : l.filterMap (fun c => some (f c)) = l.map f := by
  induction l with
  | nil => rfl
  | cons c l ih => simp [List.filterMap_cons, ih]
theorem fm_filter (p : Nat → Prop) [DecidablePred p] (l : List Nat) : l.filterMap (fun c => if p c then some c else none) = l.filter (fun c => decide (p c)) := by
  induction l with
  | nil => rfl
  | cons c l ih =>
    by_cases h : p c
    · simp [List.filterMap_cons, h, ih]
    · simp [List.filterMap_cons, h, ih]
theorem mk_low (l : List Nat) : mk .low l = l.filterMap (fun c => some (lowC c)) := (fm_map _ l).symm
theorem mk_swap (a b : Nat) (l : List Nat) : mk (.swap a b) l = l.filterMap (fun c => some (swapC a b c)) := (fm_map _ l).symm
theorem mk_drop (cs : List Nat) (l : List Nat) : mk (.drop cs) l = l.filterMap (fun c => if c ∉ cs then some c else none) := (fm_filter _ l).symm
theorem ix_tupK {X : Cx} {K : PySem.W.Frag} (h : X.K = K) : IxR X (rIxT K) := by
  subst h; exact ix_tup
theorem ix_listK {X : Cx} {K : PySem.W.Frag} (h : X.K = K) : IxR X (rIxL K) := by
  subst h; exact ix_list
theorem sg_eq {a b : Nat} : V.str (sg a) = V.str (sg b) ↔ a = b := by
  constructor
  · intro h
    injection h with h
    have := SX.S_inj (a := [a]) (b := [b]) h
    injection this
  · rintro rfl; rfl
theorem slice_one (x : List Nat) (c : Nat) : ∃ m, Txt.slice (S x) (some (-1)) none = S m ∧ (V.str (S m) = V.str (sg c) ↔ x.getLast? = some c) := by
  by_cases h : x = []
  · subst h
    refine ⟨[], by decide +kernel, ?_⟩
    constructor
    · intro e
      injection e with e
      have := SX.S_inj (a := []) (b := [c]) e
      cases this
    · intro e; simp at e
  · refine ⟨_, slice_last h, ?_⟩
    have hp : 0 < x.length := List.length_pos_iff.mpr h
    have e : x.drop (x.length - 1) = [x[x.length - 1]] := by
      rw [List.drop_eq_getElem_cons (by omega)]
      rw [show x.length - 1 + 1 = x.length by omega, List.drop_length]
    rw [e]
    have e2 : x.getLast? = some (x[x.length - 1]) := by
      rw [List.getLast?_eq_getElem?, List.getElem?_eq_getElem (by omega)]
    rw [e2]
    constructor
    · intro h2
      rw [sg_eq.mp (show V.str (sg _) = V.str (sg c) from h2)]
    · intro h2
      injection h2 with h2
      rw [h2]; rfl
theorem drop_while_step {a : Nat} {l : List Nat} {i : Nat} (h : l[i]? = some a) : (l.drop i).dropWhile (fun c => decide (c = a)) = (l.drop (i + 1)).dropWhile (fun c => decide (c = a)) := by
  obtain ⟨hi, e⟩ := List.getElem?_eq_some_iff.mp h
  rw [List.drop_eq_getElem_cons hi, List.dropWhile_cons_of_pos (by simp [e])]
theorem drop_while_stop {a c : Nat} {l : List Nat} {i : Nat} (h : l[i]? = some c) (hc : c ≠ a) : (l.drop i).dropWhile (fun c => decide (c = a)) = l.drop i := by
  obtain ⟨hi, e⟩ := List.getElem?_eq_some_iff.mp h
  rw [List.drop_eq_getElem_cons hi, List.dropWhile_cons_of_neg (by simp [e, hc])]
section
variable {P : Program} {w : World} {K : PySem.W.Frag} {mg : Str → Option Value} {base : Heap}
end
end Pd

set_option maxHeartbeats 4000000
namespace Pd
open PySem PySem.Spec PyProof.Rows L2 SX
/-- the module's constants -/
structure Cst (mg : Str → Option Value) : Prop where
  chars : ∃ t, mg "CHARACTERS" = some (.str "abcdefghijklmnopqrstuvwxyzABCDEFGHIJKLMNOPQRSTUVWXYZ0123456789 -._/'" t)
  most : ∃ t, mg "LONGEST_TEXT" = some (.int 60 t)
  drop : ∃ t, mg "MOST_DROPPED" = some (.int 10 t)
  cut : ∃ t, mg "LONGEST_CUT" = some (.int 9 t)
  steps : ∃ t, mg "MOST_STEPS" = some (.int 6 t)
theorem chars_S : ("abcdefghijklmnopqrstuvwxyzABCDEFGHIJKLMNOPQRSTUVWXYZ0123456789 -._/'" : Str) = S CH := by decide +kernel
/-- a comprehension over a text that gives a value for each sign -/
theorem lc_vals {l : List Nat} {g : TG} {te : TE} {vs : List Nat} {σ : L2.St} {H1 : Hp} {D : Addr} {Qd : Hp → Prop} (f : Nat → V) (hl : l.length ≤ 1000) (hD : H1 D = none)
    (hs : ∀ c H acc (Nx : Hp → Prop), c ∈ l → Ext H1 H → H D = some (.lst acc) → acc.length < sizeLine →
      (∀ H', H' D = some (.lst (acc ++ [f c])) → Ext H1 H' → Nx H') →
      g (.str (sg c)) (wipe σ vs) H fun σ2 H2 => wipe σ2 vs = wipe σ vs ∧ tYes σ2 H2 fun b H3 =>
        if b = true then te σ2 H3 fun y H4 => ∃ acc', H4 D = some (.lst acc') ∧ acc'.length < sizeLine ∧ Nx (upd H4 D (.lst (acc' ++ [y]))) else Nx H3)
    (hd : ∀ H, H D = some (.lst (l.map f)) → Ext H1 H → Qd H) :
    ∃ W : Nat → Nat → Hp → Prop, (∃ m, W 0 m (upd H1 D (.lst []))) ∧ ∀ i m H, W i m H →
      ((Its (S l)).stop i H ∧ Qd H) ∨ ((Its (S l)).go i H ∧ ∃ Nx : Hp → Prop, (∀ H', Nx H' → ∃ m', m' < m ∧ W (i + 1) m' H') ∧ ∀ x H', (Its (S l)).yld i H x H' → g x (wipe σ vs) H' fun σ2 H2 => wipe σ2 vs = wipe σ vs ∧ tYes σ2 H2 fun b H3 =>
        if b = true then te σ2 H3 fun y H4 => ∃ acc, H4 D = some (.lst acc) ∧ acc.length < sizeLine ∧ Nx (upd H4 D (.lst (acc ++ [y]))) else Nx H3) := by
  have hsz : (S l).cps.size = l.length := by simp [S]
  have key := lc_it (g := g) (tt := tYes) (te := te) (vs := vs) (σ := σ) (H1 := H1) (D := D) (Qd := Qd) (walk_str (z := S l))
    (fun i H => H D = some (.lst ((l.take i).map f)) ∧ Ext H1 H) ⟨by rw [List.take_zero]; exact upd_same, Ext.refl.new hD⟩ (fun _ _ _ _ => trivial) ?_ ?_
  · exact key
  · rintro i x H H' hi ⟨h1, h2⟩ ⟨rfl, c, hc, rfl⟩
    have hc' : l[i]? = some c := by simpa [S] using hc
    refine hs c H' _ (fun H' => H' D = some (.lst ((l.take (i + 1)).map f)) ∧ Ext H1 H') (List.mem_of_getElem? hc') h2 h1 (by rw [List.length_map, sizeLine_eq]; have := List.length_take_le' i l; omega) fun H'' e1 e2 => ⟨?_, e2⟩
    rw [e1, List.take_succ, hc', List.map_append]
    rfl
  · rintro H ⟨h1, h2⟩
    rw [hsz, List.take_length] at h1
    exact hd H h1 h2
def isChr : List Nat → Bool
  | [c] => decide (c ∈ CH)
  | _ => false
def spIsChar : Sp := fun vs H Q _ => ∃ l : List Nat, vs = [.str (S l)] ∧ l.length ≤ 1000 ∧ Q (.bl (isChr l)) H
def goodB (l : List Nat) : Bool := decide (l.length ≤ 60) && l.all (fun c => decide (c ∈ CH))
theorem goodB_of {l : List Nat} (h : Good l) : goodB l = true := by
  unfold goodB
  rw [decide_eq_true h.2, Bool.true_and, List.all_eq_true]
  exact fun c hc => decide_eq_true (h.1 c hc)
theorem goodB_iff {l : List Nat} : goodB l = true ↔ Good l := by
  constructor
  · intro h
    unfold goodB at h
    rw [Bool.and_eq_true, List.all_eq_true] at h
    exact ⟨fun c hc => of_decide_eq_true (h.2 c hc), of_decide_eq_true h.1⟩
  · exact goodB_of
def spIsText : Sp := fun vs H Q _ => ∃ l : List Nat, vs = [.str (S l)] ∧ l.length ≤ 1000 ∧ ∀ H', Ext H H' → Q (.bl (goodB l)) H'
def spIsInt : Sp := fun vs H Q _ => ∃ n : Int, vs = [.int n] ∧ Q (.bl true) H
section
variable {P : Program} {w : World} {K : PySem.W.Frag} {mg : Str → Option Value} {base : Heap}
theorem ok_isChar {f : Addr} {fd : FuncData} (F : Fun K "is_character" "is_character" sIsCharacter f fd) (T : Nms mg) (C : Cst mg) : FnOk P w K mg base CX0 1 f fd ["value"] spIsChar := by
  refine F.ok scIsCharacter (fun vs H Q E h => ?_) (fun cdv A outer s H vs Q E hr h => ?_)
  · obtain ⟨l, rfl, _⟩ := h
    rfl
  · obtain ⟨l, rfl, hl, q⟩ := h
    have nd := scIsCharacter.nd
    obtain ⟨tc, hc⟩ := C.chars
    refine ⟨_, pss_one (ps_ret (pe_and (pe_callB call_isi (by rfl) T.isi (by decide +kernel) (pa_cons (pv 0) (pa_cons (pe_bltn (v := .ty "str") (by rfl) T.str (by decide +kernel) rfl) pa_nil)))
      (pe_and (pe_cmpR op_eq (pe_callB call_len_str (by rfl) T.len PySem.boot_len (pa_cons (pv 0) pa_nil)) pe_int (nomark _)) (pe_one (pe_cmpR op_in_sign (pv 0) (pe_glob (v := .str _) rfl hc ⟨_, rfl⟩) rfl))))), ?_⟩
    refine ⟨_, rfl, _, _, _, _, true, rfl, .ty "str", .base (.str _), kit_ty (by decide +kernel), true, rfl, iteT ?_⟩
    refine ⟨_, rfl, _, rfl, by rw [S_len, sizeLine_eq]; omega, rfl, _, rfl, ?_⟩
    rw [S_len]
    match l, hl, q with
    | [], _, q => exact q
    | [c], _, q =>
      refine iteT ⟨_, rfl, c, _, rfl, rfl, ?_⟩
      rw [chars_S]
      exact q
    | a :: b :: r, _, q =>
      have e : decide (V.int (((a :: b :: r).length : Nat) : Int) = V.int 1) = false := decide_eq_false (by
        intro h; injection h with h; rw [List.length_cons, List.length_cons] at h; omega)
      rw [e]
      exact iteF q
theorem ok_isText {f : Addr} {fd : FuncData} (F : Fun K "is_text" "is_text" sIsText f fd) (T : Nms mg) (C : Cst mg) : FnOk P w K mg base CX0 1 f fd ["value"] spIsText := by
  refine F.ok scIsText (fun vs H Q E h => ?_) (fun cdv A outer s H vs Q E hr h => ?_)
  · obtain ⟨l, rfl, _⟩ := h
    rfl
  · obtain ⟨l, rfl, hl, q⟩ := h
    have nd := scIsText.nd
    obtain ⟨tc, hc⟩ := C.chars
    obtain ⟨tm, hm⟩ := C.most
    refine ⟨_, pss_cons (ps_if (PW.pt (pw_or (pt_not (pt_val (pe_callB call_isi (by rfl) T.isi (by decide +kernel) (pa_cons (pv 0) (pa_cons (pe_bltn (v := .ty "str") (by rfl) T.str (by decide +kernel) rfl) pa_nil)))))
        (pw_or1 (pt_cmpR op_gt (pe_callB call_len_str (by rfl) T.len PySem.boot_len (pa_cons (pv 0) pa_nil)) (pe_glob (v := .int 60) rfl hm ⟨_, rfl⟩) (nomark _))))) (pss_one (ps_ret pe_bl)) pss_nil)
      (pss_one (ps_ret (pe_callB (cr_all rfl) (by rfl) T.all (by decide +kernel) (pa_cons (pe_lc (own := [("character", 1)]) (g := gName 1) (tt := tYes) rfl nd (pi_str (pv 0)) (blkOk_by (N := ["value", "character"]) (sc := defScope sIsText) (by decide +kernel)) (fun _ _ _ _ _ => pg_name (i := 1) nd rfl (Or.inl rfl)) (fun _ _ _ _ _ => pts_nil)
          (fun _ _ _ _ _ => pe_cmpR op_in_sign (pv 1) (pe_glob (v := .str _) rfl hc ⟨_, rfl⟩) rfl)) pa_nil)))), ?_⟩
    refine ⟨_, rfl, _, _, _, _, true, rfl, .ty "str", .base (.str _), kit_ty (by decide +kernel), true, rfl, ?_⟩
    refine iteF ⟨_, rfl, _, rfl, by rw [S_len, sizeLine_eq]; omega, _, _, rfl, rfl, _, rfl, ?_⟩
    rw [S_len]
    by_cases h60 : l.length ≤ 60
    · rw [decide_eq_false (show ¬ ((l.length : Nat) : Int) > 60 by omega)]
      refine iteF ⟨_, rfl, _, rfl, fun D hD => lc_vals (fun c => V.bl (decide (c ∈ CH))) hl hD (fun c H2 acc Nx hc' k2 hacc hal nx => ⟨rfl, _, rfl, c, _, rfl, rfl, acc, hacc, hal, nx _ ?_ (k2.new hD)⟩) fun H2 h2 k2 => ?_⟩
      · rw [chars_S]; exact upd_same
      · refine ⟨D, l.map (fun c => decide (c ∈ CH)), rfl, SqL.of ?_, ?_⟩
        · rw [List.map_map]; exact h2
        · have e : (l.map (fun c => decide (c ∈ CH))).all id = goodB l := by
            unfold goodB
            rw [decide_eq_true h60, Bool.true_and, List.all_map]; rfl
          rw [e]
          exact q H2 k2
    · rw [decide_eq_true (show ((l.length : Nat) : Int) > 60 by omega)]
      refine iteT ?_
      have e : goodB l = false := by unfold goodB; rw [decide_eq_false h60, Bool.false_and]
      rw [e] at q
      exact q H .refl
theorem ok_isInt {f : Addr} {fd : FuncData} (F : Fun K "is_integer" "is_integer" sIsInteger f fd) (T : Nms mg) : FnOk P w K mg base CX0 1 f fd ["value"] spIsInt := by
  refine F.ok scIsInteger (fun vs H Q E h => ?_) (fun cdv A outer s H vs Q E hr h => ?_)
  · obtain ⟨l, rfl, _⟩ := h
    rfl
  · obtain ⟨n, rfl, q⟩ := h
    refine ⟨_, pss_one (ps_ret (pe_and (pe_callB call_isi (by rfl) T.isi (by decide +kernel) (pa_cons (pv 0) (pa_cons (pe_bltn (v := .ty "int") (by rfl) T.int (by decide +kernel) rfl) pa_nil)))
      (pe_one (pe_not (pe_callB call_isi (by rfl) T.isi (by decide +kernel) (pa_cons (pv 0) (pa_cons (pe_bltn (v := .ty "bool") (by rfl) T.bool (by decide +kernel) rfl) pa_nil))))))), ?_⟩
    refine ⟨_, rfl, _, _, _, _, true, rfl, .ty "int", .base (.int n), kit_ty (by decide +kernel), true, rfl, iteT ?_⟩
    exact ⟨_, rfl, _, _, _, _, false, rfl, .ty "bool", .base (.int n), kit_ty (by decide +kernel), false, rfl, q⟩
end
end Pd

set_option maxHeartbeats 4000000
namespace Pd
open PySem PySem.Spec PyProof.Rows L2 SX
def spIsChoice : Sp := fun vs H Q _ => ∃ cs : List Nat, vs = [.str (S cs)] ∧ Stp.ok (.drop cs) ∧ ∀ H', Ext H H' → Q (.bl true) H'
def spIsStep : Sp := fun vs H Q _ => ∃ (p : Addr) (st : Stp), vs = [.ref p] ∧ StpAt H p st ∧ st.ok ∧ ∀ H', Ext H H' → Q (.bl true) H'
theorem StpAt.ty {K : PySem.W.Frag} {H : Hp} {p : Addr} {st : Stp} (h : StpAt H p st) : TyX K H (.ref p) (.type "tuple") := by
  cases st with
  | swap a b =>
    obtain ⟨n, t0, t, u, e, _⟩ := h
    exact .fTuple e
  | low => exact .base (.tup h)
  | drop _ => exact .base (.tup h)
  | lead _ => exact .base (.tup h)
  | once _ =>
    rcases h with h | ⟨o, h⟩
    · exact .base (.tup h)
    · exact .fTuple h
  | cut _ => exact .base (.tup h)
theorem isChr_one {c : Nat} (h : c ∈ CH) : isChr [c] = true := decide_eq_true h
section
variable {P : Program} {w : World} {K : PySem.W.Frag} {mg : Str → Option Value} {base : Heap}
theorem ok_isChoice {f : Addr} {fd : FuncData} (F : Fun K "_is_choice" "_is_choice" sIsChoice f fd) (T : Nms mg) (C : Cst mg) (G : Cl P w K mg base 1 "is_character" spIsChar) : FnOk P w K mg base CX0 2 f fd ["value"] spIsChoice := by
  refine F.ok scIsChoice (fun vs H Q E h => ?_) (fun cdv A outer s H vs Q E hr h => ?_)
  · obtain ⟨l, rfl, _⟩ := h
    rfl
  · obtain ⟨cs, rfl, ⟨h1, h2, h3, h4⟩, q⟩ := h
    have nd := scIsChoice.nd
    obtain ⟨td, hd⟩ := C.drop
    refine ⟨_, pss_cons (ps_if (PW.pt (pw_or (pt_not (pt_val (pe_callB call_isi (by rfl) T.isi (by decide +kernel) (pa_cons (pv 0) (pa_cons (pe_bltn (v := .ty "str") (by rfl) T.str (by decide +kernel) rfl) pa_nil)))))
        (pw_or1 (pt_not (pt_chain op_le op_le pe_int (pe_callB call_len_str (by rfl) T.len PySem.boot_len (pa_cons (pv 0) pa_nil)) (pe_glob (v := .int 10) rfl hd ⟨_, rfl⟩)))))) (pss_one (ps_ret pe_bl)) pss_nil)
      (pss_one (ps_ret (pe_and (pe_cmpR op_eq (pe_lenSetS rfl rfl T.len rfl T.set (pv 0)) (pe_callB call_len_str (by rfl) T.len PySem.boot_len (pa_cons (pv 0) pa_nil)) (nomark _))
        (pe_one (pe_callB (cr_all rfl) (by rfl) T.all (by decide +kernel) (pa_cons (pe_lc (own := [("character", 1)]) (g := gName 1) (tt := tYes) rfl nd (pi_str (pv 0)) (blkOk_by (N := ["value", "character"]) (sc := defScope sIsChoice) (by decide +kernel)) (fun _ _ _ _ _ => pg_name (i := 1) nd rfl (Or.inl rfl)) (fun _ _ _ _ _ => pts_nil)
          (fun _ _ _ _ _ => pe_cl G hr (by decide) rfl (pa_cons (pv 1) pa_nil))) pa_nil)))))), ?_⟩
    refine ⟨_, rfl, _, _, _, _, true, rfl, .ty "str", .base (.str _), kit_ty (by decide +kernel), true, rfl, ?_⟩
    refine iteF ⟨_, rfl, _, rfl, by rw [S_len, sizeLine_eq]; omega, _, _, rfl, rfl, _, rfl, ?_⟩
    rw [S_len, decide_eq_true (show (1 : Int) ≤ (cs.length : Nat) by omega)]
    refine iteT ⟨_, _, rfl, rfl, _, rfl, ?_⟩
    rw [decide_eq_true (show ((cs.length : Nat) : Int) ≤ 10 by omega)]
    refine iteF ?_
    refine ⟨_, rfl, S cs, rfl, ?_, h3, by show cs.length ≤ 1000; omega, _, rfl, _, rfl, by rw [S_len, sizeLine_eq]; omega, rfl, _, rfl, ?_⟩
    · rw [← Array.all_toList, List.all_eq_true]
      exact fun c hc => decide_eq_true (CH_lt c (h4 c hc))
    rw [S_len, decide_eq_true rfl]
    refine iteT ⟨_, rfl, _, rfl, fun D hD => lc_vals (fun c => V.bl (isChr [c])) (by omega) hD (fun c H2 acc Nx hc' k2 hacc hal nx => ⟨rfl, _, rfl, [c], rfl, by simp, acc, hacc, hal, nx _ upd_same (k2.new hD)⟩) fun H2 e2 k2 => ?_⟩
    refine ⟨D, cs.map (fun c => isChr [c]), rfl, SqL.of (by rw [List.map_map]; exact e2), ?_⟩
    have e : (cs.map (fun c => isChr [c])).all id = true := by
      rw [List.all_map, List.all_eq_true]
      exact fun c hc => isChr_one (h4 c hc)
    rw [e]
    exact q H2 k2
theorem ok_isStep {f : Addr} {fd : FuncData} (F : Fun K "is_step" "is_step" sIsStep f fd) (T : Nms mg) (C : Cst mg) (G : Cl P w K mg base 1 "is_character" spIsChar) (G2 : Cl P w K mg base 2 "_is_choice" spIsChoice) (G3 : Cl P w K mg base 1 "is_integer" spIsInt) : FnOk P w K mg base CX0 3 f fd ["value"] spIsStep := by
  refine F.ok scIsStep (fun vs H Q E h => ?_) (fun cdv A outer s H vs Q E hr h => ?_)
  · obtain ⟨p, st, rfl, _⟩ := h
    rfl
  · obtain ⟨p, st, rfl, hst, hok, q⟩ := h
    have nd := scIsStep.nd
    obtain ⟨tc, hc⟩ := C.cut
    refine ⟨_, pss_cons (ps_if (PW.pt (pw_or (pt_not (pt_val (pe_callB call_isi (by rfl) T.isi (by decide +kernel) (pa_cons (pv 0) (pa_cons (pe_bltn (v := .ty "tuple") (by rfl) T.tuple (by decide +kernel) rfl) pa_nil)))))
        (pw_or (pt_cmpR op_eq (pe_callB call_len_seq (by rfl) T.len PySem.boot_len (pa_cons (pv 0) pa_nil)) pe_int (nomark _))
        (pw_or1 (pt_not (pt_val (pe_callB call_isi (by rfl) T.isi (by decide +kernel) (pa_cons (pe_ix ix_tup (pv 0) pe_int (fun _ _ => rfl)) (pa_cons (pe_bltn (v := .ty "str") (by rfl) T.str (by decide +kernel) rfl) pa_nil))))))))) (pss_one (ps_ret pe_bl)) pss_nil)
      (pss_cons (ps_set (i := 1) nd rfl (Or.inl rfl) (pe_ix ix_tup (pv 0) pe_int (fun _ _ => rfl)))
      (pss_cons (ps_if (pt_cmpR op_eq (pv 1) pe_str (nomark _)) (pss_one (ps_ret (pe_cmpR op_eq (pe_callB call_len_seq (by rfl) T.len PySem.boot_len (pa_cons (pv 0) pa_nil)) pe_int (nomark _)))) pss_nil)
      (pss_cons (ps_if (pt_cmpR op_eq (pv 1) pe_str (nomark _)) (pss_one (ps_ret (pe_and (pe_cmpR op_eq (pe_callB call_len_seq (by rfl) T.len PySem.boot_len (pa_cons (pv 0) pa_nil)) pe_int (nomark _))
        (pe_and (pe_cl G hr (by decide) rfl (pa_cons (pe_ix ix_tup (pv 0) pe_int (fun _ _ => rfl)) pa_nil)) (pe_one (pe_cl G hr (by decide) rfl (pa_cons (pe_ix ix_tup (pv 0) pe_int (fun _ _ => rfl)) pa_nil))))))) pss_nil)
      (pss_cons (ps_if (pt_cmpR op_ne (pe_callB call_len_seq (by rfl) T.len PySem.boot_len (pa_cons (pv 0) pa_nil)) pe_int (nomark _)) (pss_one (ps_ret pe_bl)) pss_nil)
      (pss_cons (ps_if (pt_cmpR op_eq (pv 1) pe_str (nomark _)) (pss_one (ps_ret (pe_cl G2 hr (by decide) rfl (pa_cons (pe_ix ix_tup (pv 0) pe_int (fun _ _ => rfl)) pa_nil)))) pss_nil)
      (pss_cons (ps_if (PW.pt (pw_or (pt_cmpR op_eq (pv 1) pe_str (nomark _)) (pw_or1 (pt_cmpR op_eq (pv 1) pe_str (nomark _))))) (pss_one (ps_ret (pe_cl G hr (by decide) rfl (pa_cons (pe_ix ix_tup (pv 0) pe_int (fun _ _ => rfl)) pa_nil)))) pss_nil)
      (pss_one (ps_ret (pe_and (pe_cmpR op_eq (pv 1) pe_str (nomark _)) (pe_and (pe_cl G3 hr (by decide) rfl (pa_cons (pe_ix ix_tup (pv 0) pe_int (fun _ _ => rfl)) pa_nil))
        (pe_one (pe_chain op_le op_le pe_int (pe_ix ix_tup (pv 0) pe_int (fun _ _ => rfl)) (pe_glob (v := .int 9) rfl hc ⟨_, rfl⟩))))))))))))), ?_⟩
    have hs : ∀ {K : PySem.W.Frag}, SqT K H p (stpVals st) := hst.seq
    have e0 : decide (V.int (((stpVals st).length : Nat) : Int) = V.int 0) = false := by cases st <;> rfl
    refine ⟨_, rfl, _, _, _, _, true, rfl, .ty "tuple", hst.ty, kit_ty (by decide +kernel), true, rfl, ?_⟩
    refine iteF ⟨_, rfl, p, _, rfl, .inr hs, rfl, _, rfl, ?_⟩
    rw [e0]
    refine iteF ⟨_, rfl, p, _, 0, _, rfl, rfl, hs, word_at st, _, _, _, _, true, rfl, .ty "str", .base (.str _), kit_ty (by decide +kernel), true, rfl, ?_⟩
    refine iteF ⟨_, rfl, p, _, 0, _, rfl, rfl, hs, word_at st, ?_⟩
    cases st with
    | low =>
      refine ⟨_, rfl, rfl, _, rfl, ite2 (fun _ => ?_) (fun h => absurd (decide_eq_true rfl) h)⟩
      exact ⟨_, rfl, p, _, rfl, .inr hs, rfl, q H .refl⟩
    | swap a b =>
      refine ⟨_, rfl, rfl, _, rfl, ite2 (fun h => absurd (show V.str "swap" = V.str "lower" from of_decide_eq_true h) (by decide +kernel)) (fun _ => ?_)⟩
      refine ⟨_, rfl, rfl, _, rfl, ite2 (fun _ => ?_) (fun h => absurd (decide_eq_true rfl) h)⟩
      refine ⟨_, rfl, p, _, rfl, .inr hs, rfl, true, rfl, iteT ⟨_, rfl, p, _, 1, .str (sg a), rfl, rfl, hs, rfl, [a], rfl, by simp, true, ?_, iteT ⟨_, rfl, p, _, 2, .str (sg b), rfl, rfl, hs, rfl, [b], rfl, by simp, ?_⟩⟩⟩
      · rw [isChr_one hok.1]
      · rw [isChr_one hok.2]; exact q H .refl
    | drop cs =>
      refine ⟨_, rfl, rfl, _, rfl, ite2 (fun h => absurd (show V.str "drop" = V.str "lower" from of_decide_eq_true h) (by decide +kernel)) (fun _ => ?_)⟩
      refine ⟨_, rfl, rfl, _, rfl, ite2 (fun h => absurd (show V.str "drop" = V.str "swap" from of_decide_eq_true h) (by decide +kernel)) (fun _ => ?_)⟩
      refine ⟨_, rfl, p, _, rfl, .inr hs, rfl, _, rfl, iteF ?_⟩
      refine ⟨_, rfl, rfl, _, rfl, ite2 (fun _ => ?_) (fun h => absurd (decide_eq_true rfl) h)⟩
      exact ⟨_, rfl, p, _, 1, .str (S cs), rfl, rfl, hs, rfl, cs, rfl, hok, q⟩
    | lead a =>
      refine ⟨_, rfl, rfl, _, rfl, ite2 (fun h => absurd (show V.str "lead" = V.str "lower" from of_decide_eq_true h) (by decide +kernel)) (fun _ => ?_)⟩
      refine ⟨_, rfl, rfl, _, rfl, ite2 (fun h => absurd (show V.str "lead" = V.str "swap" from of_decide_eq_true h) (by decide +kernel)) (fun _ => ?_)⟩
      refine ⟨_, rfl, p, _, rfl, .inr hs, rfl, _, rfl, iteF ?_⟩
      refine ⟨_, rfl, rfl, _, rfl, ite2 (fun h => absurd (show V.str "lead" = V.str "drop" from of_decide_eq_true h) (by decide +kernel)) (fun _ => ?_)⟩
      refine ⟨_, rfl, rfl, _, rfl, iteT ?_⟩
      refine ⟨_, rfl, p, _, 1, .str (sg a), rfl, rfl, hs, rfl, [a], rfl, by simp, ?_⟩
      rw [isChr_one hok]; exact q H .refl
    | once a =>
      refine ⟨_, rfl, rfl, _, rfl, ite2 (fun h => absurd (show V.str "once" = V.str "lower" from of_decide_eq_true h) (by decide +kernel)) (fun _ => ?_)⟩
      refine ⟨_, rfl, rfl, _, rfl, ite2 (fun h => absurd (show V.str "once" = V.str "swap" from of_decide_eq_true h) (by decide +kernel)) (fun _ => ?_)⟩
      refine ⟨_, rfl, p, _, rfl, .inr hs, rfl, _, rfl, iteF ?_⟩
      refine ⟨_, rfl, rfl, _, rfl, ite2 (fun h => absurd (show V.str "once" = V.str "drop" from of_decide_eq_true h) (by decide +kernel)) (fun _ => ?_)⟩
      refine ⟨_, rfl, rfl, _, rfl, ite2 (fun h => absurd (show V.str "once" = V.str "lead" from of_decide_eq_true h) (by decide +kernel)) (fun _ => ?_)⟩
      refine ⟨_, rfl, rfl, _, rfl, iteT ?_⟩
      refine ⟨_, rfl, p, _, 1, .str (sg a), rfl, rfl, hs, rfl, [a], rfl, by simp, ?_⟩
      rw [isChr_one hok]; exact q H .refl
    | cut n =>
      refine ⟨_, rfl, rfl, _, rfl, ite2 (fun h => absurd (show V.str "cut" = V.str "lower" from of_decide_eq_true h) (by decide +kernel)) (fun _ => ?_)⟩
      refine ⟨_, rfl, rfl, _, rfl, ite2 (fun h => absurd (show V.str "cut" = V.str "swap" from of_decide_eq_true h) (by decide +kernel)) (fun _ => ?_)⟩
      refine ⟨_, rfl, p, _, rfl, .inr hs, rfl, _, rfl, iteF ?_⟩
      refine ⟨_, rfl, rfl, _, rfl, ite2 (fun h => absurd (show V.str "cut" = V.str "drop" from of_decide_eq_true h) (by decide +kernel)) (fun _ => ?_)⟩
      refine ⟨_, rfl, rfl, _, rfl, ite2 (fun h => absurd (show V.str "cut" = V.str "lead" from of_decide_eq_true h) (by decide +kernel)) (fun _ => ?_)⟩
      refine ⟨_, rfl, rfl, _, rfl, ite2 (fun h => absurd (show V.str "cut" = V.str "once" from of_decide_eq_true h) (by decide +kernel)) (fun _ => ?_)⟩
      refine ⟨_, rfl, rfl, true, rfl, iteT ⟨_, rfl, p, _, 1, .int (n : Nat), rfl, rfl, hs, rfl, _, rfl, true, rfl, iteT ?_⟩⟩
      have e1 : decide ((1 : Int) ≤ (n : Nat)) = true := decide_eq_true (by have := hok.1; omega)
      have e2 : decide (((n : Nat) : Int) ≤ 9) = true := decide_eq_true (by have := hok.2; omega)
      refine ⟨_, rfl, p, _, 1, .int (n : Nat), rfl, rfl, hs, rfl, _, _, rfl, rfl, true, ?_, iteT ⟨_, _, rfl, rfl, ?_⟩⟩
      · exact congrArg V.bl e1
      · show Q (V.bl (decide (((n : Nat) : Int) ≤ 9))) H
        rw [e2]; exact q H .refl
end
end Pd

set_option maxHeartbeats 4000000
namespace Pd
open PySem PySem.Spec PyProof.Rows L2 SX
/-! ### text.replace(step[1], step[2]), step any name of the def -/
theorem item_rawV {X : Cx} {pins : List (Addr × Obj)} {σ : L2.St} {H : Hp} {s : Shared} {i : Nat} {x : Str} {p : Addr} {its : Array Value} {k : Int} {j : Nat} {w : Value} {p1 cp pos : Pos} {Q : Value → Shared → Prop} (hN : X.N[i]? = some x)
    (hv : Vis X.env.scope x) (I : Inv X pins σ H s) (hσ : σ[i]? = some (some (.ref p))) (ht : ∀ s', Inv X pins σ H s' → s'.heap.IsTuple p its) (h0 : 0 ≤ k) (h1 : k < its.size) (hz : its.size ≤ 1000) (hw : its[k.toNat]? = some w) (fin : ∀ s', Inv X pins σ H s' → Q w s')
    (hs : PlainIx (.Constant (.int k) j cp)) (hd : (x == ("__debug__" : Str)) = false := by decide) (hcd : (x == ("__classdict__" : Str)) = false := by decide) :
    wpAny (model X.prog X.w) X.A (eval (.Subscript (.Name x p1) (.Constant (.int k) j cp) pos) X.env) Q X.xe s := by
  refine Subscript_ (thn ((pe_var (pos := p1) hN hv hd hcd).run pins s σ H (fun v H1 => v = .ref p ∧ H1 = H) I ⟨.ref p, hσ, rfl, rfl⟩) ?_)
  rintro u s1 ⟨v, H1, I1, r1, e1, e2⟩
  subst e1 e2
  obtain rfl : u = Value.ref p := r1
  refine wpAny_Constant_int ?_
  have I2 := I1.tok (s1.toks + 1)
  exact subscriptTail_builtinR (x := w) (ht _ I2).typeIs slot_tuple_getitem.lookup
    (getItem_tuple (j := k.toNat) (Q := fun r s' => r = w ∧ Q r s') (ht _ I2) (by omega) (by omega) (by rw [seqIndex_of h0 h1]) hw ⟨rfl, fin _ I2⟩) (hs _ _)
/-- no token is booked, by what K tells of the statics -/
theorem nb_of {K : PySem.W.Frag} {mg : Str → Option Value} {base : Heap} (M : L2.Mod K mg base) (z : PySem.W.nsIn K cStatics sharingNotToldKey = some none) : NoneBooked base := by
  obtain ⟨mc, hn, _⟩ := M.nolimit
  refine ⟨mc, hn, ?_⟩
  obtain ⟨o, es, ep, e1, e2, _, e3⟩ := hn
  rw [← e3]
  unfold PySem.W.nsIn at z
  cases hl : K.lookup cStatics with
  | none => rw [hl] at z; cases z
  | some ob =>
    have e4 := M.kin _ _ hl
    rw [e1] at e4
    injection e4 with e4
    subst e4
    obtain ⟨cls, dict, data, sl⟩ := o
    replace e2 : data = .dict es ep := e2
    subst e2
    rw [hl] at z
    cases hf : es.toList.find? (·.key.isStr sharingNotToldKey) with
    | some en => simp [hf] at z
    | none =>
      show nsFind es sharingNotToldKey = none
      unfold nsFind findBy
      rw [← Array.find?_toList, hf]
      rfl
theorem pe_replV {X : Cx} {i : Nat} {kx : Str} {o : Expr} {to : TE} {j0 j1 : Nat} {p2 p3 c0 c1 q0 q1 apos pos : Pos} (nb : PySem.W.nsIn X.K cStatics sharingNotToldKey = some none) (ho : PE X o to) (hN : X.N[i]? = some kx) (hv : Vis X.env.scope kx) (hd : (kx == ("__debug__" : Str)) = false := by decide)
    (hcd : (kx == ("__classdict__" : Str)) = false := by decide)
    (hst : starEach [.Subscript (.Name kx p2) (.Constant (.int 1) j0 c0) q0, .Subscript (.Name kx p3) (.Constant (.int 2) j1 c1) q1] X.env =
      [(false, eval (.Subscript (.Name kx p2) (.Constant (.int 1) j0 c0) q0) X.env), (false, eval (.Subscript (.Name kx p3) (.Constant (.int 2) j1 c1) q1) X.env)] := by rfl)
    (hbase : attributeBase o "replace" X.env (eval o X.env) = eval o X.env := by rfl) (hline : (apos.endLine == pos.line) = true := by rfl) :
    PE X (.Call (.Attribute o "replace" apos) [.Subscript (.Name kx p2) (.Constant (.int 1) j0 c0) q0, .Subscript (.Name kx p3) (.Constant (.int 2) j1 c1) q1] [] pos) (tRepl to i) := by
  constructor
  intro pins s σ H Q I h
  refine PySem.Call_method2 hbase hst hline (thn (ho.run pins s σ H _ I h) ?_)
  rintro v s1 ⟨y, H1, I1, r1, x, p, a, b, rfl, hσ, ⟨n, t0, t, u, hp, ht, hu, htu⟩, hz, q⟩
  obtain ⟨tx, rfl⟩ := r1
  have tup : ∀ s', Inv X pins σ H1 s' → s'.heap.IsTuple p #[.str "swap" t0, .str a t, .str b u] := fun s' I' => ⟨_, (I'.hok p _ hp).1, rfl, n, rfl⟩
  refine ⟨"str", _, F.plainAttrs_str, F.slot_str_replace, F.type_str_replace, typeIs_str _ _ _, (fun _ e => nomatch e), Calls.callWith_builtin rfl (Calls.evalArgs_plain (Calls.spliced_cons ?_))⟩
  refine item_rawV hN hv I1 hσ tup (by decide) (by show (1:Int) < ((3:Nat):Int); decide) (by show 3 ≤ 1000; decide) rfl (fun s2 I2 => ?_) (fun _ _ => rfl) hd hcd
  refine Calls.spliced_cons (item_rawV hN hv I2 hσ tup (by decide) (by show (2:Int) < ((3:Nat):Int); decide) (by show 3 ≤ 1000; decide) rfl (fun s3 I3 => Calls.spliced_nil ?_) (fun _ _ => rfl) hd hcd)
  exact replace_all (unbooked (nb_of I3.ok.mod nb) I3) ht hu htu hz fun t' k => ⟨.str (Txt.replace x a b), H1, I3.tok k, ⟨t', rfl⟩, q⟩
/-! ### the texts' methods, on lists of signs -/
theorem good_lt {l : List Nat} (h : Good l) : l.all (· < 128) = true := List.all_eq_true.mpr fun c hc => decide_eq_true (CH_lt c (h.1 c hc))
theorem lower_mk {l : List Nat} (h : Good l) : Txt.lower (S l) = S (mk .low l) := lower_S (good_lt h)
theorem replL_one (a b : Nat) : ∀ l : List Nat, PySem.StrLaws.replL [a] [b] l = l.map (swapC a b)
  | [] => PySem.StrLaws.replL_nil
  | c :: r => by
    have ih := replL_one a b r
    by_cases h : c = a
    · rw [PySem.StrLaws.replL_hit (by simp) (by simp [h])]
      show [b] ++ PySem.StrLaws.replL [a] [b] r = swapC a b c :: r.map (swapC a b)
      rw [ih]
      have e : swapC a b c = b := by unfold swapC; rw [if_pos h]
      rw [e]; rfl
    · rw [PySem.StrLaws.replL_miss (by simp [h]), ih]
      have e : swapC a b c = c := by unfold swapC; rw [if_neg h]
      rw [List.map_cons, e]
theorem replace_mk (a b : Nat) (l : List Nat) : Txt.replace (S l) (sg a) (sg b) = S (mk (.swap a b) l) := by
  refine TL.ext_tl ?_
  have e := PySem.StrLaws.replace_list (x := S l) (y := sg a) (z := sg b) (Nat.le_refl 1)
  refine e.trans ?_
  exact replL_one a b l
theorem drop_takeWhile (p : Nat → Bool) : ∀ l : List Nat, l.drop (l.takeWhile p).length = l.dropWhile p
  | [] => rfl
  | c :: r => by
    by_cases h : p c = true
    · rw [List.takeWhile_cons_of_pos h, List.dropWhile_cons_of_pos h, List.length_cons, List.drop_succ_cons]; exact drop_takeWhile p r
    · rw [List.takeWhile_cons_of_neg h, List.dropWhile_cons_of_neg h]; rfl
theorem lstrip_mk (a : Nat) (l : List Nat) : Txt.lstripChars (S l) (sg a) = S (mk (.lead a) l) := by
  refine TL.ext_tl ?_
  have e : Txt.lstripChars (S l) (sg a) = Builtin.Str.strSub (S l) (stripLo (sg a).cps.contains true (S l)) (stripHi (sg a).cps.contains false (S l) (stripLo (sg a).cps.contains true (S l))) := stripBy_eq _ _ _ _
  have hc : (sg a).cps.contains = fun c => decide (c = a) := by
    funext c
    show (#[a] : Array Nat).contains c = _
    by_cases h : c = a
    · simp [h]
    · simp [h]
  rw [e, TL.tl_strSub, hc]
  show (l.drop (l.takeWhile fun c => decide (c = a)).length).take ((S l).length - (l.takeWhile fun c => decide (c = a)).length) = l.dropWhile (fun c => decide (c = a))
  rw [S_len, List.take_of_length_le (by rw [List.length_drop]; omega), drop_takeWhile]
theorem onceN_filter (a : Nat) (l : List Nat) : ∀ n : Nat, onceN a l n = ((List.range n).filter (keepAt a l)).map (fun i => l.getD i 0)
  | 0 => rfl
  | n + 1 => by
    rw [onceN, onceN_filter a l n, List.range_succ, List.filter_append, List.map_append]
    congr 1
    by_cases h : keepAt a l n = true
    · simp [h]
    · simp [h]
end Pd

set_option maxHeartbeats 4000000
namespace Pd
open PySem PySem.Spec PyProof.Rows L2 SX
def spOnce : Sp := fun vs H Q _ => ∃ (l : List Nat) (a : Nat), vs = [.str (S l), .str (sg a)] ∧ Good l ∧ ∀ H', Ext H H' → Q (.str (S (onceL a l))) H'
theorem S_item {l : List Nat} {i : Nat} (hi : i < l.length) : atI (S l).cps.toList (i : Int) = some (l.getD i 0) := by
  refine atI_nat ?_
  show l[i]? = _
  rw [List.getElem?_eq_getElem hi]
  simp only [List.getD, List.getElem?_eq_getElem hi, Option.getD_some]
section
variable {P : Program} {w : World} {K : PySem.W.Frag} {mg : Str → Option Value} {base : Heap}
theorem ok_once {f : Addr} {fd : FuncData} (F : Fun K "_once" "_once" sOnce f fd) (T : Nms mg) : FnOk P w K mg base CX0 1 f fd ["text", "single"] spOnce := by
  refine F.ok scOnce (fun vs H Q E h => ?_) (fun cdv A outer s H vs Q E hr h => ?_)
  · obtain ⟨l, a, rfl, _⟩ := h
    rfl
  · obtain ⟨l, a, rfl, hG, q⟩ := h
    have nd := scOnce.nd
    refine ⟨_, pss_cons (ps_setLc (i := 2) (own := [("at", 3)]) (g := gName 3) rfl nd rfl rfl (sw_true rfl rfl rfl (by decide +kernel)) (pi_range1 rfl T.range (pa_cons (pe_callB call_len_str (by rfl) T.len PySem.boot_len (pa_cons (pv 0) pa_nil)) pa_nil))
        (blkOk_by (N := ["text", "single", "kept", "at"]) (sc := defScope sOnce) (by decide +kernel)) (fun _ _ _ _ _ => pg_name (i := 3) nd rfl (Or.inl rfl))
        (fun _ _ _ _ _ => pts_one (PW.pt (pw_or (pt_cmpR op_ne (pe_ix ix_str (pv 0) (pv 3) (fun _ _ => rfl)) (pv 1) (nomark _)) (pw_or (pt_cmpR op_eq (pv 3) pe_int (nomark _)) (pw_or1 (pt_cmpR op_ne (pe_ix ix_str (pv 0) (pe_op op_sub (pv 3) pe_int) (fun _ _ => rfl)) (pv 1) (nomark _)))))))
        (fun _ _ _ _ _ => pv 3))
      (pss_one (ps_ret (pe_join pe_str (pe_lc (own := [("at", 3)]) (g := gName 3) (tt := tYes) rfl nd (pi_list (pv 2)) (blkOk_by (N := ["text", "single", "kept", "at"]) (sc := defScope sOnce) (by decide +kernel)) (fun _ _ _ _ _ => pg_name (i := 3) nd rfl (Or.inl rfl)) (fun _ _ _ _ _ => pts_nil)
        (fun _ _ _ _ _ => pe_ix ix_str (pv 0) (pv 3) (fun _ _ => rfl)))))), ?_⟩
    have hl := hG.2
    refine ⟨_, rfl, _, rfl, by rw [S_len, sizeLine_eq]; omega, _, rfl, by rw [S_len]; omega, by rw [S_len]; omega, fun D hD => ?_⟩
    rw [show (((S l).length : Nat) : Int).toNat = l.length by rw [S_len]; omega]
    have ne2 : ∀ {x y : Nat}, V.str (sg x) = V.str (sg y) ↔ x = y := fun {x y} => sg_eq
    refine lc_it (walk_range (lo := 0) (n := l.length)) (fun i H' => H' D = some (.lst (((List.range i).filter (keepAt a l)).map fun k => V.int (k : Nat))) ∧ Ext H H') ⟨upd_same, Ext.refl.new hD⟩ (fun _ _ _ _ => trivial) ?_ ?_
    · rintro i x H2 H3 hi ⟨h2, k2⟩ ⟨rfl, rfl⟩
      have e0 : (0 : Int) + (i : Nat) = (i : Nat) := by omega
      show gName 3 (V.int (0 + (i : Nat))) _ _ _
      rw [e0]
      refine ⟨rfl, _, rfl, _, rfl, _, _, _, rfl, rfl, by rw [S_len, sizeLine_eq]; omega, S_item hi, _, rfl, rfl, _, rfl, ?_⟩
      have hlen : (((List.range i).filter (keepAt a l)).map fun k => V.int (k : Nat)).length < sizeLine := by
        rw [List.length_map, sizeLine_eq]
        have := List.length_filter_le (keepAt a l) (List.range i)
        rw [List.length_range] at this
        omega
      have yes : keepAt a l i = true → ∃ v, ([some (V.str (S l)), some (V.str (sg a)), none, some (V.int (i : Nat))] : L2.St)[3]? = some (some v) ∧ ∃ acc, H3 D = some (.lst acc) ∧ acc.length < sizeLine ∧
          ((L2.upd H3 D (.lst (acc ++ [v]))) D = some (.lst (((List.range (i + 1)).filter (keepAt a l)).map fun k => V.int (k : Nat))) ∧ Ext H (L2.upd H3 D (.lst (acc ++ [v])))) := fun hk => by
        refine ⟨_, rfl, _, h2, hlen, ?_, k2.new hD⟩
        rw [upd_same, List.range_succ, List.filter_append, List.map_append]
        simp [hk]
      by_cases h1 : l.getD i 0 = a
      · have e1 : (!decide (V.str (sg (l.getD i 0)) = V.str (sg a))) = false := by rw [decide_eq_true (ne2.mpr h1)]; rfl
        show if (!decide (V.str (sg (l.getD i 0)) = V.str (sg a))) = true then _ else _
        rw [e1]
        refine iteF ⟨_, rfl, rfl, _, rfl, ?_⟩
        by_cases h0 : i = 0
        · subst h0
          refine iteT (iteT (yes ?_))
          simp [keepAt]
        · rw [decide_eq_false (show ¬ V.int ((i : Nat) : Int) = V.int 0 from fun h => h0 (by injection h with h; omega))]
          have e3 : ((i : Nat) : Int) - 1 = ((i - 1 : Nat) : Int) := by omega
          refine iteF ⟨_, rfl, _, rfl, _, _, rfl, rfl, _, _, l.getD (i - 1) 0, rfl, rfl, by rw [S_len, sizeLine_eq]; omega, by rw [e3]; exact S_item (by omega), _, rfl, rfl, _, rfl, ?_⟩
          by_cases h4 : l.getD (i - 1) 0 = a
          · have e4 : (!decide (V.str (sg (l.getD (i - 1) 0)) = V.str (sg a))) = false := by rw [decide_eq_true (ne2.mpr h4)]; rfl
            show if (!decide (V.str (sg (l.getD (i - 1) 0)) = V.str (sg a))) = true then _ else _
            rw [e4]
            refine iteF ⟨?_, k2⟩
            have hk : keepAt a l i = false := by
              simp only [keepAt, Bool.or_eq_false_iff, decide_eq_false_iff_not, Decidable.not_not]
              exact ⟨⟨h1, h0⟩, h4⟩
            rw [h2, List.range_succ, List.filter_append]
            simp [hk]
          · have e4 : (!decide (V.str (sg (l.getD (i - 1) 0)) = V.str (sg a))) = true := by rw [decide_eq_false (fun h => h4 (ne2.mp h))]; rfl
            show if (!decide (V.str (sg (l.getD (i - 1) 0)) = V.str (sg a))) = true then _ else _
            rw [e4]
            refine iteT (yes ?_)
            simp only [keepAt, Bool.or_eq_true, decide_eq_true_eq]
            exact .inr h4
      · have e1 : (!decide (V.str (sg (l.getD i 0)) = V.str (sg a))) = true := by rw [decide_eq_false (fun h => h1 (ne2.mp h))]; rfl
        show if (!decide (V.str (sg (l.getD i 0)) = V.str (sg a))) = true then _ else _
        rw [e1]
        refine iteT (iteT (yes ?_))
        simp only [keepAt, Bool.or_eq_true, decide_eq_true_eq]
        exact .inl (.inl h1)
    · rintro H2 ⟨h2, k2⟩
      generalize hks : (List.range l.length).filter (keepAt a l) = ks at h2
      have hkl : ∀ k ∈ ks, k < l.length := fun k hk => by
        rw [← hks] at hk
        exact List.mem_range.mp (List.mem_filter.mp hk).1
      have hkn : ks.length ≤ l.length := by
        rw [← hks]
        have := List.length_filter_le (keepAt a l) (List.range l.length)
        rw [List.length_range] at this
        exact this
      refine ⟨⟨_, rfl⟩, _, rfl, D, rfl, ⟨_, SqL.of h2⟩, fun D2 hD2 => ?_⟩
      refine lc_it (walk_list (xs := ks.map fun k => V.int (k : Nat))) (fun i H' => H' D2 = some (.lst (((((ks.take i).map fun k => l.getD k 0)).map sg).map V.str)) ∧ Ext H2 H') ⟨upd_same, Ext.refl.new hD2⟩ (fun i H' _ p => SqL.of (p.2 D _ h2)) ?_ ?_
      · rintro i x H3 H4 hi ⟨h3, k3⟩ ⟨rfl, hx⟩
        rw [List.length_map] at hi
        rw [List.getElem?_map, List.getElem?_eq_getElem hi] at hx
        obtain rfl : V.int ((ks[i] : Nat) : Int) = x := Option.some.inj hx
        have hk : ks[i] < l.length := hkl _ (List.getElem_mem hi)
        refine ⟨rfl, _, rfl, _, rfl, _, _, _, rfl, rfl, by rw [S_len, sizeLine_eq]; omega, S_item hk, _, h3, ?_, ?_, k3.new hD2⟩
        · rw [List.length_map, List.length_map, List.length_map, sizeLine_eq]
          have := List.length_take_le' i ks
          omega
        · rw [upd_same, List.take_succ, List.getElem?_eq_getElem hi, Option.toList_some, List.map_append, List.map_append, List.map_append]
          rfl
      · rintro H3 ⟨h3, k3⟩
        rw [List.length_map, List.take_length] at h3
        refine join_ask h3 (by rw [List.length_map]; omega) ?_
        have e : (ks.map fun k => l.getD k 0) = onceL a l := by
          show _ = onceN a l l.length
          rw [onceN_filter, hks]
        rw [e]
        exact q H3 (k2.trans k3)
end
end Pd

set_option maxHeartbeats 4000000
namespace Pd
open PySem PySem.Spec PyProof.Rows L2 SX
/-! ### aa -> a, six times over, is once -/
def onceP (a : Nat) : Nat → List Nat → List Nat
  | _, [] => []
  | p, c :: t => (if c ≠ a ∨ p ≠ a then [c] else []) ++ onceP a c t
def halve (a : Nat) : List Nat → List Nat
  | [] => []
  | [x] => [x]
  | x :: y :: r => if x = a ∧ y = a then a :: halve a r else x :: halve a (y :: r)
termination_by l => l.length
def lastOf : Nat → List Nat → Nat
  | p, [] => p
  | _, c :: t => lastOf c t
theorem onceP_snoc {a c : Nat} : ∀ (u : List Nat) (p : Nat), onceP a p (u ++ [c]) = onceP a p u ++ (if c ≠ a ∨ lastOf p u ≠ a then [c] else [])
  | [], p => by
    show (if c ≠ a ∨ p ≠ a then [c] else []) ++ [] = [] ++ (if c ≠ a ∨ p ≠ a then [c] else [])
    rw [List.append_nil, List.nil_append]
  | x :: u, p => by
    show _ ++ onceP a x (u ++ [c]) = (_ ++ onceP a x u) ++ _
    rw [onceP_snoc u x, List.append_assoc]; rfl
theorem lastOf_take : ∀ (l : List Nat) (p i : Nat), i < l.length → lastOf p (l.take (i + 1)) = l.getD i 0
  | [], _, _, h => absurd h (Nat.not_lt_zero _)
  | x :: l, p, 0, _ => by simp [lastOf]
  | x :: l, p, i + 1, h => by
    show lastOf x (l.take (i + 1)) = _
    rw [lastOf_take l x i (by simpa using h)]
    simp
theorem onceN_P {a p : Nat} (hp : p ≠ a) (l : List Nat) : ∀ i : Nat, i ≤ l.length → onceN a l i = onceP a p (l.take i)
  | 0, _ => by simp [onceN, onceP]
  | i + 1, h => by
    have hi : i < l.length := h
    have e : l.take (i + 1) = l.take i ++ [l.getD i 0] := by
      rw [List.take_add_one, List.getElem?_eq_getElem hi, List.getD_eq_getElem?_getD, List.getElem?_eq_getElem hi]; rfl
    rw [onceN, onceN_P hp l i (by omega), e, onceP_snoc]
    congr 1
    have key : (keepAt a l i = true) ↔ (l.getD i 0 ≠ a ∨ lastOf p (l.take i) ≠ a) := by
      cases i with
      | zero => simp [keepAt, lastOf, hp]
      | succ j =>
        rw [lastOf_take l p j (by omega)]
        simp [keepAt]
    by_cases hk : keepAt a l i = true
    · rw [if_pos hk, if_pos (key.mp hk)]
    · rw [if_neg hk, if_neg (fun z => hk (key.mpr z))]
theorem onceL_P {a p : Nat} (hp : p ≠ a) (l : List Nat) : onceL a l = onceP a p l := by
  unfold onceL
  rw [onceN_P hp l _ (Nat.le_refl _), List.take_length]
theorem halve_pair (a : Nat) (r : List Nat) : halve a (a :: a :: r) = a :: halve a r := by
  rw [halve, if_pos ⟨rfl, rfl⟩]
theorem halve_miss {a x y : Nat} {r : List Nat} (h : ¬ (x = a ∧ y = a)) : halve a (x :: y :: r) = x :: halve a (y :: r) := by
  rw [halve, if_neg h]
theorem onceP_halve (a : Nat) : ∀ (n : Nat) (l : List Nat) (p : Nat), l.length ≤ n → onceP a p (halve a l) = onceP a p l
  | _, [], _, _ => by rw [halve]
  | _, [x], _, _ => by rw [halve]
  | 0, _ :: _ :: _, _, h => by simp at h
  | n + 1, x :: y :: r, p, h => by
    have h' : r.length + 1 ≤ n := by simpa using h
    by_cases e : x = a ∧ y = a
    · obtain ⟨e1, e2⟩ := e
      rw [e1, e2]
      rw [halve_pair]
      show _ ++ onceP a a (halve a r) = _ ++ (_ ++ onceP a a r)
      rw [onceP_halve a n r a (by omega)]
      simp
    · rw [halve_miss e]
      show _ ++ onceP a x (halve a (y :: r)) = _ ++ onceP a x (y :: r)
      rw [onceP_halve a n (y :: r) x (by simpa using h')]
theorem onceP_first {a p : Nat} (hp : p ≠ a) (l : List Nat) : (onceP a p l).length ≤ 1 + (onceP a a l).length := by
  cases l with
  | nil => simp [onceP]
  | cons c t =>
    show ((if c ≠ a ∨ p ≠ a then [c] else []) ++ onceP a c t).length ≤ 1 + ((if c ≠ a ∨ a ≠ a then [c] else []) ++ onceP a c t).length
    rw [if_pos (.inr hp), List.length_append, List.length_append]
    show 1 + _ ≤ _
    omega
theorem halve_len {a p : Nat} (hp : p ≠ a) : ∀ (n : Nat) (l : List Nat), l.length ≤ n → 2 * (halve a l).length ≤ l.length + (onceP a p l).length
  | _, [], _ => by rw [halve]; simp
  | _, [x], _ => by
    rw [halve]
    show 2 * 1 ≤ 1 + ((if x ≠ a ∨ p ≠ a then [x] else []) ++ []).length
    rw [if_pos (.inr hp)]; show 2 ≤ 1 + 1; decide
  | 0, _ :: _ :: _, h => by simp at h
  | n + 1, x :: y :: r, h => by
    have h' : r.length + 1 ≤ n := by simpa using h
    by_cases e : x = a ∧ y = a
    · obtain ⟨e1, e2⟩ := e
      rw [e1, e2]
      have ih := halve_len hp n r (by omega)
      have f := onceP_first hp r
      rw [halve_pair]
      have e2 : onceP a p (a :: a :: r) = a :: onceP a a r := by
        show (if a ≠ a ∨ p ≠ a then [a] else []) ++ ((if a ≠ a ∨ a ≠ a then [a] else []) ++ onceP a a r) = _
        rw [if_pos (.inr hp), if_neg (by simp)]; rfl
      rw [e2]
      simp only [List.length_cons]
      omega
    · have ih := halve_len hp n (y :: r) (by simpa using h')
      rw [halve_miss e]
      have e2 : onceP a p (x :: y :: r) = x :: onceP a p (y :: r) := by
        show (if x ≠ a ∨ p ≠ a then [x] else []) ++ ((if y ≠ a ∨ x ≠ a then [y] else []) ++ onceP a y r) = x :: ((if y ≠ a ∨ p ≠ a then [y] else []) ++ onceP a y r)
        have hyx : y ≠ a ∨ x ≠ a := by
          by_cases hx : x = a
          · exact .inl fun hy => e ⟨hx, hy⟩
          · exact .inr hx
        rw [if_pos (.inr hp), if_pos hyx, if_pos (.inr hp)]; rfl
      rw [e2]
      simp only [List.length_cons] at ih ⊢
      omega
theorem onceP_le (a : Nat) : ∀ (l : List Nat) (p : Nat), (onceP a p l).length ≤ l.length
  | [], _ => by simp [onceP]
  | c :: t, p => by
    have := onceP_le a t c
    show ((if c ≠ a ∨ p ≠ a then [c] else []) ++ onceP a c t).length ≤ t.length + 1
    rw [List.length_append]
    split
    · show 1 + _ ≤ _; omega
    · show 0 + _ ≤ _; omega
theorem onceP_same (a : Nat) : ∀ (l : List Nat) (p : Nat), (onceP a p l).length = l.length → onceP a p l = l
  | [], _, _ => rfl
  | c :: t, p, h => by
    have z : ((if c ≠ a ∨ p ≠ a then [c] else []) ++ onceP a c t).length = t.length + 1 := h
    have le := onceP_le a t c
    rw [List.length_append] at z
    show (if c ≠ a ∨ p ≠ a then [c] else []) ++ onceP a c t = c :: t
    by_cases k : c ≠ a ∨ p ≠ a
    · rw [if_pos k] at z ⊢
      have := onceP_same a t c (by show _ = _; have : ([c] : List Nat).length = 1 := rfl; omega)
      rw [this]; rfl
    · rw [if_neg k] at z
      have : ([] : List Nat).length = 0 := rfl
      omega
def halves (a : Nat) (l : List Nat) : Nat → List Nat
  | 0 => l
  | i + 1 => halve a (halves a l i)
theorem halves_once {a p : Nat} (hp : p ≠ a) (l : List Nat) : ∀ i : Nat, onceP a p (halves a l i) = onceP a p l
  | 0 => rfl
  | i + 1 => by
    show onceP a p (halve a (halves a l i)) = _
    rw [onceP_halve a _ _ p (Nat.le_refl _), halves_once hp l i]
theorem halves_len {a p : Nat} (hp : p ≠ a) (l : List Nat) : ∀ i : Nat, (halves a l i).length - (onceP a p l).length ≤ (l.length - (onceP a p l).length) / 2 ^ i
  | 0 => by simp [halves]
  | i + 1 => by
    have ih := halves_len hp l i
    have s := halve_len hp _ (halves a l i) (Nat.le_refl _)
    rw [halves_once hp l i] at s
    have e : (halve a (halves a l i)).length - (onceP a p l).length ≤ ((halves a l i).length - (onceP a p l).length) / 2 := by omega
    show (halve a (halves a l i)).length - _ ≤ _
    rw [Nat.pow_succ, ← Nat.div_div_eq_div_mul]
    exact Nat.le_trans e (Nat.div_le_div_right ih)
theorem halves_six {a : Nat} {l : List Nat} (h : l.length ≤ 60) : halves a l 6 = onceL a l := by
  have hp : a + 1 ≠ a := by omega
  rw [onceL_P hp l]
  have z := halves_len hp l 6
  have z0 : (l.length - (onceP a (a + 1) l).length) / 2 ^ 6 = 0 := Nat.div_eq_of_lt (by show _ < 64; omega)
  rw [z0] at z
  have o := halves_once hp l 6
  have le := onceP_le a (halves a l 6) (a + 1)
  rw [o] at le
  have s := onceP_same a (halves a l 6) (a + 1) (by rw [o]; omega)
  rw [← s, o]
theorem halve_S (a : Nat) : ∀ (n : Nat) (l : List Nat), l.length ≤ n → PySem.StrLaws.replL [a, a] [a] l = halve a l
  | _, [], _ => by rw [PySem.StrLaws.replL_nil, halve]
  | _, [x], _ => by
    rw [PySem.StrLaws.replL_miss (by simp), PySem.StrLaws.replL_nil, halve]
  | 0, _ :: _ :: _, h => by simp at h
  | n + 1, x :: y :: r, h => by
    have h' : r.length + 1 ≤ n := by simpa using h
    by_cases e : x = a ∧ y = a
    · obtain ⟨e1, e2⟩ := e
      rw [e1, e2]
      rw [PySem.StrLaws.replL_hit (by simp) (by simp), halve_pair]
      show a :: PySem.StrLaws.replL [a, a] [a] r = _
      rw [halve_S a n r (by omega)]
    · rw [PySem.StrLaws.replL_miss (by simpa using e), halve_miss e, halve_S a n (y :: r) (by simpa using h')]
theorem replace_halve (a : Nat) (l : List Nat) : Txt.replace (S l) (sg a ++ sg a) (sg a) = S (halve a l) := by
  refine TL.ext_tl ?_
  have e0 : (sg a ++ sg a) = S [a, a] := by rw [sg_S, S_cat]; rfl
  rw [e0]
  have e := PySem.StrLaws.replace_list (x := S l) (y := S [a, a]) (z := sg a) (by rw [S_len]; show 1 ≤ 2; decide)
  refine e.trans ?_
  exact halve_S a _ l (Nat.le_refl _)
theorem halve_mem {a c : Nat} : ∀ (n : Nat) (l : List Nat), l.length ≤ n → c ∈ halve a l → c ∈ l
  | _, [], _, h => by rw [halve] at h; exact h
  | _, [x], _, h => by rw [halve] at h; exact h
  | 0, _ :: _ :: _, h, _ => by simp at h
  | n + 1, x :: y :: r, h, m => by
    have h' : r.length + 1 ≤ n := by simpa using h
    by_cases e : x = a ∧ y = a
    · obtain ⟨e1, e2⟩ := e
      rw [e1, e2] at m ⊢
      rw [halve_pair] at m
      rcases List.mem_cons.mp m with rfl | m
      · exact List.mem_cons_self ..
      · exact List.mem_cons_of_mem _ (List.mem_cons_of_mem _ (halve_mem n r (by omega) m))
    · rw [halve_miss e] at m
      rcases List.mem_cons.mp m with rfl | m
      · exact List.mem_cons_self ..
      · exact List.mem_cons_of_mem _ (halve_mem n (y :: r) (by simpa using h') m)
theorem halve_good {a : Nat} {l : List Nat} (h : Good l) : Good (halve a l) := by
  have hp : a + 1 ≠ a := by omega
  have s := halve_len hp _ l (Nat.le_refl _)
  have le := onceP_le a l (a + 1)
  exact ⟨fun c hc => h.1 c (halve_mem _ l (Nat.le_refl _) hc), by have := h.2; omega⟩
end Pd

set_option maxHeartbeats 4000000
namespace Pd
open PySem PySem.Spec PyProof.Rows L2 SX
/-! ### while aa in l: aa -> a -/
def pairB (a : Nat) : List Nat → Bool
  | [] => false
  | [_] => false
  | x :: y :: r => (decide (x = a) && decide (y = a)) || pairB a (y :: r)
theorem halve_le (a : Nat) : ∀ (n : Nat) (l : List Nat), l.length ≤ n → (halve a l).length ≤ l.length
  | _, [], _ => by rw [halve]; exact Nat.le_refl _
  | _, [x], _ => by rw [halve]; exact Nat.le_refl _
  | 0, _ :: _ :: _, h => by simp at h
  | n + 1, x :: y :: r, h => by
    have h' : r.length + 1 ≤ n := by simpa using h
    by_cases e : x = a ∧ y = a
    · obtain ⟨e1, e2⟩ := e
      rw [e1, e2, halve_pair]
      have := halve_le a n r (by omega)
      simp only [List.length_cons]
      omega
    · rw [halve_miss e]
      have := halve_le a n (y :: r) (by simpa using h')
      simp only [List.length_cons] at this ⊢
      omega
theorem halve_lt (a : Nat) : ∀ (n : Nat) (l : List Nat), l.length ≤ n → pairB a l = true → (halve a l).length < l.length
  | _, [], _, p => by cases p
  | _, [x], _, p => by cases p
  | 0, _ :: _ :: _, h, _ => by simp at h
  | n + 1, x :: y :: r, h, p => by
    have h' : r.length + 1 ≤ n := by simpa using h
    by_cases e : x = a ∧ y = a
    · obtain ⟨e1, e2⟩ := e
      rw [e1, e2, halve_pair]
      have := halve_le a n r (by omega)
      simp only [List.length_cons]
      omega
    · rw [halve_miss e]
      have p' : pairB a (y :: r) = true := by
        have p : ((decide (x = a) && decide (y = a)) || pairB a (y :: r)) = true := p
        rcases (Bool.or_eq_true _ _).mp p with q | q
        · obtain ⟨q1, q2⟩ := (Bool.and_eq_true _ _).mp q
          exact absurd ⟨of_decide_eq_true q1, of_decide_eq_true q2⟩ e
        · exact q
      have := halve_lt a n (y :: r) (by simpa using h') p'
      simp only [List.length_cons] at this ⊢
      omega
/-- no two behind one another: nothing is left out -/
theorem onceP_no (a : Nat) : ∀ (l : List Nat) (p : Nat), pairB a l = false → (p ≠ a ∨ ∀ x r, l = x :: r → x ≠ a) → onceP a p l = l
  | [], _, _, _ => rfl
  | x :: r, p, h, hp => by
    have e : x ≠ a ∨ p ≠ a := by
      rcases hp with hp | hp
      · exact .inr hp
      · exact .inl (hp x r rfl)
    show (if x ≠ a ∨ p ≠ a then [x] else []) ++ onceP a x r = x :: r
    rw [if_pos e, onceP_no a r x ?_ ?_]
    · rfl
    · cases r with
      | nil => rfl
      | cons y t =>
        have h : ((decide (x = a) && decide (y = a)) || pairB a (y :: t)) = false := h
        exact ((Bool.or_eq_false_iff).mp h).2
    · by_cases hx : x = a
      · refine .inr fun y t ey hy => ?_
        subst ey
        have h : ((decide (x = a) && decide (y = a)) || pairB a (y :: t)) = false := h
        rw [decide_eq_true hx, decide_eq_true hy] at h
        cases h
      · exact .inl hx
/-- the end of the while: what `once` makes -/
theorem once_end {a p : Nat} (hp : p ≠ a) {l l0 : List Nat} (h : onceP a p l = onceP a p l0) (n : pairB a l = false) : l = onceL a l0 := by
  rw [onceL_P hp, ← h, onceP_no a l p n (.inl hp)]
end Pd

set_option maxHeartbeats 4000000
namespace Pd
open PySem PySem.Spec PyProof.Rows L2 SX
/-! ### rows of steps -/
inductive Al (H : Hp) : List Addr → List Stp → Prop where
  | nil : Al H [] []
  | cons {p : Addr} {st : Stp} {ps : List Addr} {sts : List Stp} (h : StpAt H p st) (ok : st.ok) (r : Al H ps sts) : Al H (p :: ps) (st :: sts)
theorem Al.same {H H' : Hp} : ∀ {ps : List Addr} {sts : List Stp}, Al H ps sts → (∀ p ∈ ps, ∀ o, H p = some o → H' p = some o) → Al H' ps sts
  | _, _, .nil, _ => .nil
  | _, _, .cons h ok r, k => .cons (h.same fun o x => k _ (List.mem_cons_self ..) o x) ok (r.same fun p hp => k p (List.mem_cons_of_mem _ hp))
theorem Al.len {H : Hp} : ∀ {ps : List Addr} {sts : List Stp}, Al H ps sts → ps.length = sts.length
  | _, _, .nil => rfl
  | _, _, .cons _ _ r => congrArg (· + 1) r.len
theorem Al.get {H : Hp} : ∀ {ps : List Addr} {sts : List Stp} {i : Nat} {p : Addr}, Al H ps sts → ps[i]? = some p → ∃ st, sts[i]? = some st ∧ StpAt H p st ∧ st.ok
  | _, _, _, _, .nil, e => by simp at e
  | _, _, 0, _, .cons h ok r, e => by
    simp at e; subst e
    exact ⟨_, by simp, h, ok⟩
  | _, _, i + 1, _, .cons h ok r, e => by
    obtain ⟨st, e1, h1⟩ := r.get (i := i) (by simpa using e)
    exact ⟨st, by simpa using e1, h1⟩
theorem Al.mem {H : Hp} : ∀ {ps : List Addr} {sts : List Stp} {p : Addr}, Al H ps sts → p ∈ ps → ∃ st, StpAt H p st
  | _, _, _, .nil, h => nomatch h
  | _, _, _, .cons h ok r, hp => by
    rcases List.mem_cons.mp hp with rfl | hp
    · exact ⟨_, h⟩
    · exact r.mem hp
theorem Al.ext {H H' : Hp} {ps : List Addr} {sts : List Stp} (h : Al H ps sts) (k : Ext H H') : Al H' ps sts := h.same fun p _ o x => k p o x
theorem Al.kp {H H' : Hp} {j : Addr} {ps : List Addr} {sts : List Stp} {xs : List V} (h : Al H ps sts) (k : Kp j H H') (hj : H j = some (.lst xs)) : Al H' ps sts := h.same fun p hp o x => by
  obtain ⟨st, hst⟩ := h.mem hp
  obtain ⟨o', x', ne⟩ := hst.some
  refine k p o ?_ x
  rintro rfl
  rw [hj] at x'; cases x'
  exact ne _ rfl
theorem sqT_keep {K : PySem.W.Frag} {H H' : Hp} {a : Addr} {xs : List V} (h : SqT K H a xs) (k : ∀ o, H a = some o → H' a = some o) : SqT K H' a xs := by
  rcases h with (h | ⟨o, h⟩) | h
  · exact .inl (.inl (k _ h))
  · exact .inl (.inr ⟨o, k _ h⟩)
  · exact .inr h
theorem sqT_ty {K : PySem.W.Frag} {H : Hp} {a : Addr} {xs : List V} (h : SqT K H a xs) : TyX K H (.ref a) (.type "tuple") := by
  rcases h with (h | ⟨o, h⟩) | ⟨o, its, n, h, c, _⟩
  · exact .base (.tup h)
  · exact .fTuple h
  · exact .kTuple h c
theorem sqT_noLst {K : PySem.W.Frag} {H H' : Hp} {j a : Addr} {xs ys : List V} (h : SqT K H a xs) (k : Kp j H H') (hj : H j = some (.lst ys)) : SqT K H' a xs := by
  rcases h with (h | ⟨o, h⟩) | h
  · exact .inl (.inl (k a _ (by rintro rfl; rw [h] at hj; cases hj) h))
  · exact .inl (.inr ⟨o, k a _ (by rintro rfl; rw [h] at hj; cases hj) h⟩)
  · exact .inr h
def RowAt (K : PySem.W.Frag) (H : Hp) (r : Addr) (sts : List Stp) : Prop := ∃ ps : List Addr, SqT K H r (ps.map V.ref) ∧ Al H ps sts
section
variable {K : PySem.W.Frag}
theorem RowAt.ext {H H' : Hp} {r : Addr} {sts : List Stp} (h : RowAt K H r sts) (k : Ext H H') : RowAt K H' r sts := by
  obtain ⟨ps, e, a⟩ := h
  exact ⟨ps, sqT_keep e (fun o x => k r o x), a.ext k⟩
theorem RowAt.kp {H H' : Hp} {j r : Addr} {sts : List Stp} {xs : List V} (h : RowAt K H r sts) (k : Kp j H H') (hj : H j = some (.lst xs)) : RowAt K H' r sts := by
  obtain ⟨ps, e, a⟩ := h
  exact ⟨ps, sqT_noLst e k hj, a.kp k hj⟩
end
def mks (sts : List Stp) (l : List Nat) : List Nat := sts.foldl (fun l st => mk st l) l
theorem mks_good {l : List Nat} : ∀ {sts : List Stp}, (∀ st ∈ sts, st.ok) → Good l → Good (mks sts l) := by
  intro sts
  induction sts generalizing l with
  | nil => exact fun _ h => h
  | cons st sts ih => exact fun h g => ih (fun s hs => h s (List.mem_cons_of_mem _ hs)) (mk_good (h st (List.mem_cons_self ..)) g)
theorem Al.ok {H : Hp} : ∀ {ps : List Addr} {sts : List Stp}, Al H ps sts → ∀ st ∈ sts, st.ok
  | _, _, .nil, _, h => nomatch h
  | _, _, .cons _ ok r, st, h => by
    rcases List.mem_cons.mp h with rfl | h
    · exact ok
    · exact r.ok st h
theorem mks_take {sts : List Stp} {i : Nat} {st : Stp} (l : List Nat) (h : sts[i]? = some st) : mks (sts.take (i + 1)) l = mk st (mks (sts.take i) l) := by
  rw [List.take_succ, h]
  show ((sts.take i) ++ [st]).foldl (fun l st => mk st l) l = _
  rw [List.foldl_append]
  rfl
def spMadeSteps (K : PySem.W.Frag) : Sp := fun vs H Q _ => ∃ (r : Addr) (sts : List Stp) (l : List Nat), vs = [.ref r, .str (S l)] ∧ RowAt K H r sts ∧ Good l ∧ ∀ H', Ext H H' → Q (.str (S (mks sts l))) H'
section
variable {P : Program} {w : World} {K : PySem.W.Frag} {mg : Str → Option Value} {base : Heap}
theorem ok_madeByStep {f : Addr} {fd : FuncData} (F : Fun K "made_by_step" "made_by_step" sMadeByStep f fd) (T : Nms mg) (nb : PySem.W.nsIn K cStatics sharingNotToldKey = some none) (G : Cl P w K mg base 1 "_once" spOnce) : FnOk P w K mg base CX0 2 f fd ["step", "text"] spMade := by
  refine F.ok scMadeByStep (fun vs H Q E h => ?_) (fun cdv A outer s H vs Q E hr h => ?_)
  · obtain ⟨p, st, l, rfl, _⟩ := h
    rfl
  · obtain ⟨p, st, l, rfl, hst, hok, hG, q⟩ := h
    have nd := scMadeByStep.nd
    refine ⟨_, pss_cons (ps_set (i := 2) nd rfl (Or.inl rfl) (pe_ix ix_tup (pv 0) pe_int (fun _ _ => rfl)))
      (pss_cons (ps_if (pt_cmpR op_eq (pv 2) pe_str (nomark _)) (pss_one (ps_ret (pe_lower (pv 1)))) pss_nil)
      (pss_cons (ps_if (pt_cmpR op_eq (pv 2) pe_str (nomark _)) (pss_one (ps_ret (pe_replV (i := 0) nb (pv 1) rfl (.inr (.inl rfl))))) pss_nil)
      (pss_cons (ps_if (pt_cmpR op_eq (pv 2) pe_str (nomark _)) (pss_one (ps_ret (pe_join pe_str
        (pe_lc (own := [("character", 3)]) (g := gName 3) rfl nd (pi_str (pv 1)) (blkOk_by (N := ["step", "text", "name", "character"]) (sc := defScope sMadeByStep) (by decide +kernel)) (fun _ _ _ _ _ => pg_name (i := 3) nd rfl (Or.inl rfl)) (fun _ _ _ _ _ => pts_one (pt_cmpR op_notIn_sign (pv 3) (pe_ix (ix_tupK (K := K) rfl) (pv 0) pe_int (fun _ _ => rfl)) rfl))
          (fun _ _ _ _ _ => pv 3))))) pss_nil)
      (pss_cons (ps_if (pt_cmpR op_eq (pv 2) pe_str (nomark _)) (pss_one (ps_ret (pe_m1 PySem.F.slot_str_lstrip PySem.F.type_str_lstrip mt_lstripChars (pv 1) (pe_ix ix_tup (pv 0) pe_int (fun _ _ => rfl))))) pss_nil)
      (pss_cons (ps_if (pt_cmpR op_eq (pv 2) pe_str (nomark _)) (pss_one (ps_ret (pe_cl G hr (by decide) rfl (pa_cons (pv 1) (pa_cons (pe_ix ix_tup (pv 0) pe_int (fun _ _ => rfl)) pa_nil))))) pss_nil)
      (pss_one (ps_ret (pe_slice C8.sl_txt (pv 1) po_none (po_some (pe_ix ix_tup (pv 0) pe_int (fun _ _ => rfl))))))))))),?_⟩
    have hl60 := hG.2
    refine ⟨_, rfl, p, stpVals st, 0, .str (wordOf st), rfl, rfl, hst.seq, word_at st, ?_⟩
    have in0 : ∀ {c : Nat} {H' : Hp}, Ext H H' → SqT K H' p (stpVals st) := fun k => (hst.ext k).seq
    cases st with
    | low =>
      refine ⟨_, rfl, rfl, _, rfl, ite2 (fun _ => ?_) (fun h => absurd (decide_eq_true rfl) h)⟩
      refine ⟨_, rfl, ⟨_, rfl⟩, _, rfl, rfl, by rw [S_len]; omega, ?_⟩
      rw [lower_mk hG]
      exact q H .refl
    | swap a b =>
      refine ⟨_, rfl, rfl, _, rfl, ite2 (fun h => absurd (show V.str "swap" = V.str "lower" from of_decide_eq_true h) (by decide +kernel)) (fun _ => ?_)⟩
      refine ⟨_, rfl, rfl, _, rfl, ite2 (fun _ => ?_) (fun h => absurd (decide_eq_true rfl) h)⟩
      refine ⟨_, rfl, S l, p, sg a, sg b, rfl, rfl, hst, ?_, ?_⟩
      · have e : (sg b).length = 1 := rfl
        rw [S_len, e]; omega
      · rw [replace_mk]
        exact q H .refl
    | drop cs =>
      refine ⟨_, rfl, rfl, _, rfl, ite2 (fun h => absurd (show V.str "drop" = V.str "lower" from of_decide_eq_true h) (by decide +kernel)) (fun _ => ?_)⟩
      refine ⟨_, rfl, rfl, _, rfl, ite2 (fun h => absurd (show V.str "drop" = V.str "swap" from of_decide_eq_true h) (by decide +kernel)) (fun _ => ?_)⟩
      refine ⟨_, rfl, rfl, _, rfl, ite2 (fun _ => ?_) (fun h => absurd (decide_eq_true rfl) h)⟩
      refine ⟨⟨_, rfl⟩, _, rfl, _, rfl, fun D' hD => lc_text (fun c => if c ∉ cs then some c else none) (by omega) hD (fun c H2 acc Nx hc k2 hacc hal nx => ⟨rfl, ?_⟩) fun H2 h2 k2 => ?_⟩
      · refine ⟨_, rfl, _, rfl, p, _, 1, .str (S cs), rfl, rfl, in0 (c := 0) k2, rfl, c, S cs, rfl, rfl, _, rfl, ?_⟩
        show if (!decide (c ∈ cs)) = true then _ else _
        by_cases hc : c ∈ cs
        · rw [decide_eq_true hc]
          refine iteF (nx H2 ?_ k2)
          rw [if_neg (fun h => h hc)]
          show H2 D' = some (.lst (acc ++ []))
          rw [List.append_nil]; exact hacc
        · rw [decide_eq_false hc]
          refine iteT ⟨_, rfl, acc, hacc, hal, nx _ ?_ (k2.new hD)⟩
          rw [if_pos hc]; exact upd_same
      · rw [← mk_drop] at h2
        exact join_ask h2 (Nat.le_trans (mk_len _ l) (by omega)) (q H2 k2)
    | lead a =>
      refine ⟨_, rfl, rfl, _, rfl, ite2 (fun h => absurd (show V.str "lead" = V.str "lower" from of_decide_eq_true h) (by decide +kernel)) (fun _ => ?_)⟩
      refine ⟨_, rfl, rfl, _, rfl, ite2 (fun h => absurd (show V.str "lead" = V.str "swap" from of_decide_eq_true h) (by decide +kernel)) (fun _ => ?_)⟩
      refine ⟨_, rfl, rfl, _, rfl, ite2 (fun h => absurd (show V.str "lead" = V.str "drop" from of_decide_eq_true h) (by decide +kernel)) (fun _ => ?_)⟩
      refine ⟨_, rfl, rfl, _, rfl, ite2 (fun _ => ?_) (fun h => absurd (decide_eq_true rfl) h)⟩
      refine ⟨_, rfl, ⟨_, rfl⟩, _, rfl, p, _, 1, .str (sg a), rfl, rfl, in0 (c := 0) .refl, rfl, _, _, rfl, rfl, by rw [S_len, sizeLine_eq]; omega, ?_⟩
      rw [lstrip_mk]
      exact q H .refl
    | once a =>
      refine ⟨_, rfl, rfl, _, rfl, ite2 (fun h => absurd (show V.str "once" = V.str "lower" from of_decide_eq_true h) (by decide +kernel)) (fun _ => ?_)⟩
      refine ⟨_, rfl, rfl, _, rfl, ite2 (fun h => absurd (show V.str "once" = V.str "swap" from of_decide_eq_true h) (by decide +kernel)) (fun _ => ?_)⟩
      refine ⟨_, rfl, rfl, _, rfl, ite2 (fun h => absurd (show V.str "once" = V.str "drop" from of_decide_eq_true h) (by decide +kernel)) (fun _ => ?_)⟩
      refine ⟨_, rfl, rfl, _, rfl, ite2 (fun h => absurd (show V.str "once" = V.str "lead" from of_decide_eq_true h) (by decide +kernel)) (fun _ => ?_)⟩
      refine ⟨_, rfl, rfl, _, rfl, ite2 (fun _ => ?_) (fun h => absurd (decide_eq_true rfl) h)⟩
      exact ⟨_, rfl, _, rfl, p, _, 1, .str (sg a), rfl, rfl, in0 (c := 0) .refl, rfl, l, a, rfl, hG, q⟩
    | cut n =>
      refine ⟨_, rfl, rfl, _, rfl, ite2 (fun h => absurd (show V.str "cut" = V.str "lower" from of_decide_eq_true h) (by decide +kernel)) (fun _ => ?_)⟩
      refine ⟨_, rfl, rfl, _, rfl, ite2 (fun h => absurd (show V.str "cut" = V.str "swap" from of_decide_eq_true h) (by decide +kernel)) (fun _ => ?_)⟩
      refine ⟨_, rfl, rfl, _, rfl, ite2 (fun h => absurd (show V.str "cut" = V.str "drop" from of_decide_eq_true h) (by decide +kernel)) (fun _ => ?_)⟩
      refine ⟨_, rfl, rfl, _, rfl, ite2 (fun h => absurd (show V.str "cut" = V.str "lead" from of_decide_eq_true h) (by decide +kernel)) (fun _ => ?_)⟩
      refine ⟨_, rfl, rfl, _, rfl, ite2 (fun h => absurd (show V.str "cut" = V.str "once" from of_decide_eq_true h) (by decide +kernel)) (fun _ => ?_)⟩
      refine ⟨_, rfl, _, rfl, p, _, 1, .int (n : Nat), rfl, rfl, in0 (c := 0) .refl, rfl, _, rfl, _, rfl, by rw [S_len, sizeLine_eq]; omega, ?_⟩
      rw [slice_to (by omega)]
      exact q H .refl
theorem ok_madeBySteps {f : Addr} {fd : FuncData} (F : Fun K "made_by_steps" "made_by_steps" sMadeBySteps f fd) (G : Cl P w K mg base 2 "made_by_step" spMade) : FnOk P w K mg base CX0 3 f fd ["steps", "text"] (spMadeSteps K) := by
  refine F.ok scMadeBySteps (fun vs H Q E h => ?_) (fun cdv A outer s H vs Q E hr h => ?_)
  · obtain ⟨p, st, l, rfl, _⟩ := h
    rfl
  · obtain ⟨r, sts, l, rfl, ⟨ps, hr0, al⟩, hG, q⟩ := h
    have nd := scMadeBySteps.nd
    refine ⟨_, pss_cons (ps_for PassesOwn.never rfl (pi_tup (pv 0)) (pg_name (i := 2) nd rfl (Or.inl rfl)) (pss_one (ps_set (i := 1) nd rfl (Or.inl rfl) (pe_cl G hr (by decide) rfl (pa_cons (pv 2) (pa_cons (pv 1) pa_nil)))))) (pss_one (ps_ret (pv 1))), ?_⟩
    refine ⟨_, rfl, r, rfl, ⟨_, hr0⟩, for_it (walk_tup (xs := ps.map V.ref)) (fun i σ H' => ∃ u, σ = [some (.ref r), some (.str (S (mks (sts.take i) l))), u] ∧ Ext H H') ⟨none, by rw [List.take_zero]; rfl, .refl⟩ (fun i σ H' _ p => by
      obtain ⟨u, _, k⟩ := p
      exact sqT_keep hr0 (fun o x => k r o x)) ?_ ?_⟩
    · rintro i x σ H2 H3 hi ⟨u, rfl, k2⟩ ⟨rfl, hx⟩
      rw [List.getElem?_map] at hx
      obtain ⟨p, hp, rfl⟩ := Option.map_eq_some_iff.mp hx
      obtain ⟨st, e, hst, ok⟩ := al.get hp
      have gd : Good (mks (sts.take i) l) := mks_good (fun s hs => al.ok s (List.mem_of_mem_take hs)) hG
      refine ⟨_, rfl, _, rfl, p, st, _, rfl, hst.ext k2, ok, gd, fun H4 k4 => ⟨some (.ref p), ?_, k2.trans k4⟩⟩
      rw [mks_take l e]
      rfl
    · rintro σ H2 ⟨u, rfl, k2⟩
      refine ⟨_, rfl, ?_⟩
      rw [List.length_map, al.len, List.take_length]
      exact q H2 k2
end
end Pd

set_option maxHeartbeats 4000000
namespace Pd
open PySem PySem.Spec PyProof.Rows L2 SX
/-- a folding at o: its steps' tuple at r -/
def FoldAt (K : PySem.W.Frag) (C : Addr) (H : Hp) (o r : Addr) (sts : List Stp) : Prop := (∃ dx, H o = some (.ins C dx [("_steps", .ref r)])) ∧ RowAt K H r sts ∧ sts.length ≤ 6
theorem FoldAt.ext {K : PySem.W.Frag} {C : Addr} {H H' : Hp} {o r : Addr} {sts : List Stp} (h : FoldAt K C H o r sts) (k : Ext H H') : FoldAt K C H' o r sts := by
  obtain ⟨⟨dx, e⟩, a, l⟩ := h
  exact ⟨⟨dx, k o _ e⟩, a.ext k, l⟩
theorem FoldAt.kp {K : PySem.W.Frag} {C : Addr} {H H' : Hp} {j o r : Addr} {sts : List Stp} {xs : List V} (h : FoldAt K C H o r sts) (k : Kp j H H') (hj : H j = some (.lst xs)) : FoldAt K C H' o r sts := by
  obtain ⟨⟨dx, e⟩, a, l⟩ := h
  exact ⟨⟨dx, k o _ (by rintro rfl; rw [e] at hj; cases hj) e⟩, a.kp k hj, l⟩
theorem StpAt.noIns {H : Hp} {p : Addr} {st : Stp} (h : StpAt H p st) {C : Addr} {dx : Addr} {fs : List (Str × V)} (e : H p = Option.some (.ins C dx fs)) : False := by
  cases st with
  | swap a b =>
    obtain ⟨n, t0, t, u, e', _⟩ := h
    rw [e] at e'; cases e'
  | low => rw [show H p = _ from h] at e; cases e
  | drop _ => rw [show H p = _ from h] at e; cases e
  | lead _ => rw [show H p = _ from h] at e; cases e
  | once _ =>
    rcases h with h | ⟨o, h⟩
    · rw [h] at e; cases e
    · rw [h] at e; cases e
  | cut _ => rw [show H p = _ from h] at e; cases e
/-- what the program asks of the class -/
structure Fcl (K : PySem.W.Frag) (mg : Str → Option Value) (C : Addr) : Prop where
  cl : Cls K C
  nS : NoAttr K C "_steps"
  mgC : mg "Folding" = some (.ref C)
theorem sqT_noIns {K : PySem.W.Frag} {H H' : Hp} {o a C dx : Addr} {xs : List V} {fs : List (Str × V)} (h : SqT K H a xs) (ho : H o = some (.ins C dx fs)) (k : ∀ b u, b ≠ o → H b = some u → H' b = some u) : SqT K H' a xs := by
  rcases h with (h | ⟨u, h⟩) | h
  · exact .inl (.inl (k a _ (by rintro rfl; rw [h] at ho; cases ho) h))
  · exact .inl (.inr ⟨u, k a _ (by rintro rfl; rw [h] at ho; cases ho) h⟩)
  · exact .inr h
def spFInit (K : PySem.W.Frag) (C : Addr) : Sp := fun vs H Q _ => ∃ (o dx r : Addr) (sts : List Stp), vs = [.ref o, .ref r] ∧ H o = some (.ins C dx []) ∧ RowAt K H r sts ∧ sts.length ≤ 6 ∧
  ∀ H', FoldAt K C H' o r sts → (∀ b u, b ≠ o → H b = some u → H' b = some u) → Q .non H'
def spFCall (K : PySem.W.Frag) (C : Addr) : Sp := fun vs H Q _ => ∃ (o r : Addr) (sts : List Stp) (l : List Nat), vs = [.ref o, .str (S l)] ∧ FoldAt K C H o r sts ∧ Good l ∧ ∀ H', Ext H H' → Q (.str (S (mks sts l))) H'
section
variable {P : Program} {w : World} {K : PySem.W.Frag} {mg : Str → Option Value} {base : Heap}
theorem ok_finit {f Cf : Addr} {fd : FuncData} {dvs : List V} (F : FunD K "__init__" "Folding.__init__" (defArgs sFoldingInit) (defBody sFoldingInit) (defScope sFoldingInit) dvs [] f fd) (T : Nms mg) (C : Cst mg) (Z : Fcl K mg Cf) (G : Cl P w K mg base 3 "is_step" spIsStep) :
    FnOk P w K mg base CX0 4 f fd ["self", "steps"] (spFInit K Cf) := by
  refine F.ok scFoldingInit (fun vs H Q E h => ?_) (fun cdv A outer s H vs Q E hr h => ?_)
  · obtain ⟨o, dx, r, sts, rfl, _⟩ := h
    rfl
  · obtain ⟨o, dx, r, sts, rfl, ho, ⟨ps, hr0, al⟩, h6, q⟩ := h
    have nd := scFoldingInit.nd
    obtain ⟨t6, hm⟩ := C.steps
    refine ⟨_, PSs.nox (pss_cons (ps_if (pt_not (pt_val (pe_callB call_isi (by rfl) T.isi (by decide +kernel) (pa_cons (pv 1) (pa_cons (pe_bltn (v := .ty "tuple") (by rfl) T.tuple (by decide +kernel) rfl) pa_nil))))) pss_never pss_nil)
      (pss_cons (ps_for PassesOwn.never rfl (pi_enumT (by rfl) T.enum (pa_cons (pv 1) pa_nil)) (pg_tup (by rfl) (pgs_cons (pg_name (i := 2) nd rfl (Or.inl rfl)) (pgs_cons (pg_name (i := 3) nd rfl (Or.inl rfl)) pgs_nil)))
        (pss_one (ps_if (PW.pt (pw_or (pt_cmpR op_ge (pv 2) (pe_glob (v := .int 6) rfl hm ⟨_, rfl⟩) (nomark _)) (pw_or1 (pt_not (pt_val (pe_cl G hr (by decide) rfl (pa_cons (pv 3) pa_nil))))))) pss_never pss_nil)))
      (pss_one (ps_fld (pv 0) (pv 1) rfl)))), ?_⟩
    refine ⟨_, rfl, _, _, _, _, true, rfl, .ty "tuple", sqT_ty hr0, kit_ty (by decide +kernel), true, rfl, iteF ?_⟩
    refine ⟨_, rfl, r, _, rfl, hr0, for_it (walk_enumT (xs := ps.map V.ref)) (fun i σ H' => ∃ u v, σ = [some (.ref o), some (.ref r), u, v] ∧ Ext H H') ⟨none, none, rfl, .refl⟩ (fun i σ H' _ p => by
      obtain ⟨u, v, _, k⟩ := p
      exact sqT_keep hr0 (fun o x => k r o x)) ?_ ?_⟩
    · rintro i x σ H2 H3 hi ⟨u, v, rfl, k2⟩ ⟨Ta, x1, y1, rfl, hT, rfl, e1, e2⟩
      obtain rfl := Option.some.inj e1
      rw [List.length_map] at hi
      replace e2 : (ps.map V.ref)[i]? = some y1 := e2
      rw [List.getElem?_map] at e2
      obtain ⟨p, hp, rfl⟩ := Option.map_eq_some_iff.mp e2
      obtain ⟨st, es, hst, ok⟩ := al.get hp
      have k3 : Ext H (L2.upd H2 Ta (.tup [V.int (i : Nat), V.ref p])) := fun b ob hb => by
        rw [upd_ne (ne_of_none (k2 b ob hb) hT)]; exact k2 b ob hb
      have i6 : i < 6 := by have := al.len; omega
      refine ⟨Ta, _, rfl, SqT.of upd_same, rfl, _, _, rfl, _, _, rfl, rfl, ?_⟩
      refine ⟨_, rfl, _, _, rfl, rfl, _, rfl, ?_⟩
      rw [decide_eq_false (show ¬ ((i : Nat) : Int) ≥ 6 by omega)]
      refine iteF ⟨_, rfl, p, st, rfl, hst.ext k3, ok, fun H4 k4 => ⟨true, rfl, iteF ⟨some (.int (i : Nat)), some (.ref p), rfl, k3.trans k4⟩⟩⟩
    · rintro σ H2 ⟨u, v, rfl, k2⟩
      refine ⟨_, rfl, _, rfl, o, Cf, dx, [], rfl, k2 o _ ho, Z.cl, Z.nS, (by show 0 < 1000; decide), ?_⟩
      have no : ∀ b u, b ≠ o → H b = some u → (L2.upd H2 o (.ins Cf dx (putF "_steps" (V.ref r) []))) b = some u := fun b u n e => by rw [upd_ne n]; exact k2 b u e
      refine q (L2.upd H2 o (.ins Cf dx (putF "_steps" (V.ref r) []))) ⟨⟨dx, upd_same⟩, ⟨ps, sqT_noIns hr0 ho no, al.same fun p hp ob e => no p ob ?_ e⟩, h6⟩ no
      rintro rfl
      obtain ⟨st, hst⟩ := al.mem hp
      exact hst.noIns ho
theorem ok_fcall {f Cf : Addr} {fd : FuncData} (F : Fun K "__call__" "Folding.__call__" sFoldingCall f fd) (T : Nms mg) (Z : Fcl K mg Cf) (G : Cl P w K mg base 1 "is_text" spIsText) (G2 : Cl P w K mg base 3 "made_by_steps" (spMadeSteps K)) :
    FnOk P w K mg base CX0 4 f fd ["self", "text"] (spFCall K Cf) := by
  refine F.ok scFoldingCall (fun vs H Q E h => ?_) (fun cdv A outer s H vs Q E hr h => ?_)
  · obtain ⟨o, r, sts, l, rfl, _⟩ := h
    rfl
  · obtain ⟨o, r, sts, l, rfl, hF, hG, q⟩ := h
    have nd := scFoldingCall.nd
    refine ⟨_, pss_cons (ps_if (pt_not (pt_val (pe_cl G hr (by decide) rfl (pa_cons (pv 1) pa_nil)))) pss_never pss_nil)
      (pss_one (ps_ret (pe_cl G2 hr (by decide) rfl (pa_cons (pe_fld (pv 0) rfl) (pa_cons (pv 1) pa_nil))))), ?_⟩
    refine ⟨_, rfl, l, rfl, by have := hG.2; omega, fun H2 k2 => ⟨_, rfl, ?_⟩⟩
    rw [goodB_of hG]
    refine iteF ?_
    obtain ⟨⟨dx, e⟩, hR, h6⟩ := hF.ext k2
    exact ⟨_, rfl, o, Cf, dx, _, _, rfl, e, Z.cl, Z.nS, rfl, _, rfl, r, sts, l, rfl, hR, hG, fun H3 k3 => q H3 (k2.trans k3)⟩
end
end Pd

set_option maxHeartbeats 4000000
namespace Pd
open PySem PySem.Spec PyProof.Rows L2 SX
theorem sqL_keep {K : PySem.W.Frag} {H H' : Hp} {a : Addr} {xs : List V} (h : SqL K H a xs) (k : ∀ o, H a = some o → H' a = some o) : SqL K H' a xs := by
  rcases h with (h | ⟨o, h⟩) | h
  · exact .inl (.inl (k _ h))
  · exact .inl (.inr ⟨o, k _ h⟩)
  · exact .inr h
theorem JarAt.ext {H H' : Hp} {j : Addr} {n : Nat} (h : JarAt H j n) (k : Ext H H') : JarAt H' j n := by
  obtain ⟨a, b, c, h1, r⟩ := h
  exact ⟨a, b, c, k j _ h1, r⟩
theorem SgnsAt.ext {H H' : Hp} {a : Addr} {gs : List Nat} (h : SgnsAt H a gs) (k : Ext H H') : SgnsAt H' a gs := by
  refine ⟨?_, h.len, h.ok⟩
  obtain ⟨its, n, m, q, e, r⟩ := h.at_
  exact ⟨its, n, m, q, k a _ e, r⟩
theorem FoldAt.ins {K : PySem.W.Frag} {X : Cx} {C : Addr} {H : Hp} {o r : Addr} {sts : List Stp} (h : FoldAt K C H o r sts) : StX.InsC X H o C := by
  obtain ⟨⟨dx, e⟩, _⟩ := h
  exact .inr ⟨dx, _, e⟩
theorem mks_one (st : Stp) (l : List Nat) : mks [st] l = mk st l := rfl
theorem ne_same {x : Str} {A B : Prop} (h : B) : if (!decide (V.str x = V.str x)) = true then A else B := by
  rw [decide_eq_true rfl]; exact h
theorem strS_eq {a b : List Nat} : V.str (S a) = V.str (S b) ↔ a = b := by
  constructor
  · intro h
    injection h with h
    exact SX.S_inj h
  · rintro rfl; rfl
theorem dec_S (a b : List Nat) : decide (V.str (S a) = V.str (S b)) = decide (a = b) := by
  by_cases h : a = b
  · rw [decide_eq_true h, decide_eq_true (strS_eq.mpr h)]
  · rw [decide_eq_false h, decide_eq_false (fun e => h (strS_eq.mp e))]
/-- a folding made of a row: what __init__ asks, and the heap behind it -/
theorem made_ask {K : PySem.W.Frag} {C : Addr} {H : Hp} {r x dx : Addr} {sts : List Stp} {Q : VK} {E : XK} (hR : RowAt K H r sts) (h6 : sts.length ≤ 6) (hx : H x = none) (hdx : H dx = none) (ne : dx ≠ x) (q : ∀ H', FoldAt K C H' x r sts → Ext H H' → Q .non H') :
    spFInit K C [.ref x, V.ref r] (upd (upd H dx (.own x)) x (.ins C dx [])) Q E := by
  have k : Ext H (upd (upd H dx (.own x)) x (.ins C dx [])) := fun b u e => by
    rw [upd_ne (ne_of_none e hx), upd_ne (ne_of_none e hdx)]; exact e
  exact ⟨x, dx, r, sts, rfl, upd_same, hR.ext k, h6, fun H' F k2 => q H' F fun b u e => k2 b u (ne_of_none e hx) (k b u e)⟩
/-- the class Folding: made by position, called by position -/
structure Fol (P : Program) (w : World) (K : PySem.W.Frag) (mg : Str → Option Value) (base : Heap) (C : Addr) : Prop where
  made : ∃ (f : Addr) (fd : FuncData), Mk K C f ∧ FnOk P w K mg base CX0 4 f fd ["self", "steps"] (spFInit K C) ∧ Binds K fd ["self", "steps"] []
  call : ∃ (g : Addr) (fd : FuncData), StX.CallO K C g ∧ FnOk P w K mg base CX0 4 g fd ["self", "text"] (spFCall K C) ∧ Binds K fd ["self", "text"] []
  mgC : mg "Folding" = some (.ref C)
def spRow (K : PySem.W.Frag) : Sp := fun vs H Q _ => ∃ (j a : Addr) (n : Nat) (gs : List Nat), vs = [.ref j, .ref a, .int 6] ∧ JarAt H j n ∧ SgnsAt H a gs ∧ n + 400 < 1000000 ∧
  ∀ r sts H', H r = none → sts.length ≤ 6 → RowAt K H' r sts → JarAt H' j (n + 400) → Kp j H H' → Q (.ref r) H'
def spFIn (K : PySem.W.Frag) (C : Addr) : Sp := fun vs H Q _ => ∃ (o r : Addr) (sts : List Stp) (l : List Nat), vs = [.ref o, .str (S l)] ∧ FoldAt K C H o r sts ∧ Good l ∧ ∀ H', Ext H H' → Q (.bl (decide (mks sts l = l))) H'
section
variable {P : Program} {w : World} {K : PySem.W.Frag} {mg : Str → Option Value} {base : Heap}
theorem ok_fin {f Cf : Addr} {fd : FuncData} (F : Fun K "__contains__" "Folding.__contains__" sFoldingContains f fd) (T : Nms mg) (Z : Fcl K mg Cf) (G : Cl P w K mg base 1 "is_text" spIsText) (G2 : Cl P w K mg base 3 "made_by_steps" (spMadeSteps K)) :
    FnOk P w K mg base CX0 4 f fd ["self", "x"] (spFIn K Cf) := by
  refine F.ok scFoldingContains (fun vs H Q E h => ?_) (fun cdv A outer s H vs Q E hr h => ?_)
  · obtain ⟨o, r, sts, l, rfl, _⟩ := h
    rfl
  · obtain ⟨o, r, sts, l, rfl, hF, hG, q⟩ := h
    refine ⟨_, pss_one (ps_ret (pe_and (pe_cl G hr (by decide) rfl (pa_cons (pv 1) pa_nil)) (pe_one (pe_cmpR op_eq (pe_cl G2 hr (by decide) rfl (pa_cons (pe_fld (pv 0) rfl) (pa_cons (pv 1) pa_nil))) (pv 1) (nomark _))))), ?_⟩
    refine ⟨_, rfl, l, rfl, by have := hG.2; omega, fun H2 k2 => ⟨_, rfl, ?_⟩⟩
    rw [goodB_of hG]
    refine iteT ?_
    obtain ⟨⟨dx, e⟩, hR, h6⟩ := hF.ext k2
    refine ⟨_, rfl, o, Cf, dx, _, _, rfl, e, Z.cl, Z.nS, rfl, _, rfl, r, sts, l, rfl, hR, hG, fun H3 k3 => ⟨_, rfl, rfl, ?_⟩⟩
    rw [dec_S]
    exact q H3 (k2.trans k3)
end
end Pd

set_option maxHeartbeats 4000000
namespace Pd
open PySem PySem.Spec PyProof.Rows L2 SX
theorem strOk_CH {l : List Nat} (h : ∀ c ∈ l, c ∈ CH) : PyData.strOk (S l) = true := by
  unfold PyData.strOk
  rw [← Array.all_toList, List.all_eq_true]
  exact fun c hc => decide_eq_true (Nat.lt_trans (CH_lt c (h c hc)) (by decide))
theorem Ext.new' {H H' : Hp} {D : Addr} {o : HO} (a : Ext H H') (h : H' D = none) : Ext H (upd H' D o) := fun b u e => by
  rw [upd_ne (ne_of_none (a b u e) h)]; exact a b u e
/-! ### steps as data -/
def stpData : Stp → PyData
  | .low => .tuple [.str "lower"]
  | .swap a b => .tuple [.str "swap", .str (sg a), .str (sg b)]
  | .drop cs => .tuple [.str "drop", .str (S cs)]
  | .lead a => .tuple [.str "lead", .str (sg a)]
  | .once a => .tuple [.str "once", .str (sg a)]
  | .cut n => .tuple [.str "cut", .int (n : Nat)]
theorem stp_dp {K : PySem.W.Frag} {H : Hp} {p : Addr} {st : Stp} (h : StpAt H p st) : Dp K H (.ref p) (stpData st) := by
  have e := h.seq (K := K)
  cases st with
  | low => exact .tup e (.cons (.str _) .nil)
  | swap a b => exact .tup e (.cons (.str _) (.cons (.str _) (.cons (.str _) .nil)))
  | drop cs => exact .tup e (.cons (.str _) (.cons (.str _) .nil))
  | lead a => exact .tup e (.cons (.str _) (.cons (.str _) .nil))
  | once a => exact .tup e (.cons (.str _) (.cons (.str _) .nil))
  | cut n => exact .tup e (.cons (.str _) (.cons (.int _) .nil))
theorem al_dp {K : PySem.W.Frag} {H : Hp} : ∀ {ps : List Addr} {sts : List Stp}, Al H ps sts → DpAll K H (ps.map V.ref) (sts.map stpData)
  | _, _, .nil => .nil
  | _, _, .cons h _ r => .cons (stp_dp h) (al_dp r)
theorem stp_shape {st : Stp} (ok : st.ok) : (stpData st).canLay0 = true ∧ (stpData st).depth = 1 := by
  have one : ∀ {c : Nat}, c ∈ CH → PyData.strOk (sg c) = true := fun {c} h => strOk_CH (l := [c]) fun x hx => by rw [List.mem_singleton.mp hx]; exact h
  have w : PyData.strOk "lower" = true ∧ PyData.strOk "swap" = true ∧ PyData.strOk "drop" = true ∧ PyData.strOk "lead" = true ∧ PyData.strOk "once" = true ∧ PyData.strOk "cut" = true := by decide +kernel
  cases st with
  | low => simp [stpData, PyData.canLay0, PyData.canLayAll0, PyData.depth, PyData.depthAll, w]
  | swap a b => simp [stpData, PyData.canLay0, PyData.canLayAll0, PyData.depth, PyData.depthAll, w, one ok.1, one ok.2]
  | drop cs => simp [stpData, PyData.canLay0, PyData.canLayAll0, PyData.depth, PyData.depthAll, w, strOk_CH ok.2.2.2]
  | lead a => simp [stpData, PyData.canLay0, PyData.canLayAll0, PyData.depth, PyData.depthAll, w, one ok]
  | once a => simp [stpData, PyData.canLay0, PyData.canLayAll0, PyData.depth, PyData.depthAll, w, one ok]
  | cut n => simp [stpData, PyData.canLay0, PyData.canLayAll0, PyData.depth, PyData.depthAll, w]
theorem row_shape {sts : List Stp} (ok : ∀ st ∈ sts, st.ok) : SeqAt.shaped (.tuple (sts.map stpData)) = true := by
  have key : PyData.canLayAll0 (sts.map stpData) = true ∧ PyData.depthAll (sts.map stpData) ≤ 1 := by
    induction sts with
    | nil => exact ⟨rfl, Nat.zero_le _⟩
    | cons st sts ih =>
      obtain ⟨h1, h2⟩ := ih fun s hs => ok s (List.mem_cons_of_mem _ hs)
      obtain ⟨h3, h4⟩ := stp_shape (ok st (List.mem_cons_self ..))
      refine ⟨?_, ?_⟩
      · rw [List.map_cons]; simp only [PyData.canLayAll0, h3, h1, Bool.and_self]
      · rw [List.map_cons]; simp only [PyData.depthAll, h4]; omega
  unfold SeqAt.shaped
  simp only [PyData.canLay0, PyData.depth, key.1, Bool.true_and]
  exact decide_eq_true (by have := key.2; omega)
theorem op_neDK {X : Cx} {K : PySem.W.Frag} (h : X.K = K) (hu : X.A.units + 64 < cLine) : OpR X (compareOp .NotEq) (rNeD K) := by
  subst h; exact op_neD hu
theorem ext_kp {j : Addr} {H1 H2 H3 : Hp} (a : Ext H1 H2) (b : Kp j H2 H3) (n : H1 j = none) : Ext H1 H3 := fun c o e => b c o (by rintro rfl; rw [e] at n; cases n) (a c o e)
/-- rows, and foldings of them -/
inductive Rw (K : PySem.W.Frag) (H : Hp) : List Addr → List (List Stp) → Prop where
  | nil : Rw K H [] []
  | cons {r : Addr} {sts : List Stp} {rs : List Addr} {rws : List (List Stp)} (h : RowAt K H r sts) (l : sts.length ≤ 6) (t : Rw K H rs rws) : Rw K H (r :: rs) (sts :: rws)
theorem Rw.ext {K : PySem.W.Frag} {H H' : Hp} : ∀ {rs : List Addr} {rws : List (List Stp)}, Rw K H rs rws → Ext H H' → Rw K H' rs rws
  | _, _, .nil, _ => .nil
  | _, _, .cons h l t, k => .cons (h.ext k) l (t.ext k)
theorem Rw.kp {K : PySem.W.Frag} {H H' : Hp} {j : Addr} {ys : List V} (hj : H j = some (.lst ys)) : ∀ {rs : List Addr} {rws : List (List Stp)}, Rw K H rs rws → Kp j H H' → Rw K H' rs rws
  | _, _, .nil, _ => .nil
  | _, _, .cons h l t, k => .cons (h.kp k hj) l (t.kp hj k)
theorem Rw.snoc {K : PySem.W.Frag} {H : Hp} {r : Addr} {sts : List Stp} (h : RowAt K H r sts) (l : sts.length ≤ 6) : ∀ {rs : List Addr} {rws : List (List Stp)}, Rw K H rs rws → Rw K H (rs ++ [r]) (rws ++ [sts])
  | _, _, .nil => .cons h l .nil
  | _, _, .cons h' l' t => .cons h' l' (t.snoc h l)
theorem Rw.len {K : PySem.W.Frag} {H : Hp} : ∀ {rs : List Addr} {rws : List (List Stp)}, Rw K H rs rws → rs.length = rws.length
  | _, _, .nil => rfl
  | _, _, .cons _ _ t => congrArg (· + 1) t.len
theorem Rw.get {K : PySem.W.Frag} {H : Hp} : ∀ {rs : List Addr} {rws : List (List Stp)} {i : Nat} {r : Addr}, Rw K H rs rws → rs[i]? = some r → ∃ sts, rws[i]? = some sts ∧ RowAt K H r sts ∧ sts.length ≤ 6
  | _, _, _, _, .nil, e => by simp at e
  | _, _, 0, _, .cons h l t, e => by
    simp at e; subst e
    exact ⟨_, by simp, h, l⟩
  | _, _, i + 1, _, .cons h l t, e => by
    obtain ⟨sts, e1, h1⟩ := t.get (i := i) (by simpa using e)
    exact ⟨sts, by simpa using e1, h1⟩
end Pd

set_option maxHeartbeats 4000000
namespace Pd
open PySem PySem.Spec PyProof.Rows L2 SX
/-- __len__ and steps() of a folding -/
def spFLen (K : PySem.W.Frag) (C : Addr) : Sp := fun vs H Q _ => ∃ (o r : Addr) (sts : List Stp), vs = [.ref o] ∧ FoldAt K C H o r sts ∧ Q (.int (sts.length : Nat)) H
def spFSteps (K : PySem.W.Frag) (C : Addr) : Sp := fun vs H Q _ => ∃ (o r : Addr) (sts : List Stp), vs = [.ref o] ∧ FoldAt K C H o r sts ∧ Q (.ref r) H
section
variable {P : Program} {w : World} {K : PySem.W.Frag} {mg : Str → Option Value} {base : Heap}
theorem ok_flen {f Cf : Addr} {fd : FuncData} (F : Fun K "__len__" "Folding.__len__" sFoldingLen f fd) (T : Nms mg) (Z : Fcl K mg Cf) : FnOk P w K mg base CX0 1 f fd ["self"] (spFLen K Cf) := by
  refine F.ok scFoldingLen (fun vs H Q E h => ?_) (fun cdv A outer s H vs Q E hr h => ?_)
  · obtain ⟨o, r, sts, rfl, _⟩ := h
    rfl
  · obtain ⟨o, r, sts, rfl, ⟨⟨dx, e⟩, ⟨ps, hps, al⟩, _⟩, q⟩ := h
    refine ⟨_, pss_one (ps_ret (pe_callB call_len_seq (by rfl) T.len PySem.boot_len (pa_cons (pe_fld (pv 0) rfl) pa_nil))), ?_⟩
    refine ⟨_, rfl, o, Cf, dx, _, _, rfl, e, Z.cl, Z.nS, rfl, r, _, rfl, .inr hps, ?_⟩
    rw [List.length_map, al.len]
    exact q
theorem ok_fsteps {f Cf : Addr} {fd : FuncData} (F : Fun K "steps" "Folding.steps" sFoldingSteps f fd) (Z : Fcl K mg Cf) : FnOk P w K mg base CX0 1 f fd ["self"] (spFSteps K Cf) := by
  refine F.ok scFoldingSteps (fun vs H Q E h => ?_) (fun cdv A outer s H vs Q E hr h => ?_)
  · obtain ⟨o, r, sts, rfl, _⟩ := h
    rfl
  · obtain ⟨o, r, sts, rfl, ⟨⟨dx, e⟩, _, _⟩, q⟩ := h
    exact ⟨_, pss_one (ps_ret (pe_fld (pv 0) rfl)), _, rfl, o, Cf, dx, _, _, rfl, e, Z.cl, Z.nS, rfl, q⟩
end
/-- the class Folding: its length, its steps -/
structure FolS (P : Program) (w : World) (K : PySem.W.Frag) (mg : Str → Option Value) (base : Heap) (C : Addr) : Prop where
  cl : Cls K C
  len : ∃ (g : Addr) (fd : FuncData), PySem.W.findIn K (.ref C) "__len__" = some (some (.ref g)) ∧ PySem.W.isFn K (.ref g) = true ∧ FnOk P w K mg base CX0 1 g fd ["self"] (spFLen K C) ∧ Binds K fd ["self"] []
  steps : ∃ (g : Addr) (fd : FuncData), Meth K C "steps" g ∧ FnOk P w K mg base CX0 1 g fd ["self"] (spFSteps K C) ∧ Binds K fd ["self"] []
end Pd

set_option maxHeartbeats 4000000
namespace Pd
open PySem PySem.Spec PyProof.Rows L2 SX
/-! ### rows cut and put together -/
theorem Al.take {H : Hp} : ∀ {ps : List Addr} {sts : List Stp} (k : Nat), Al H ps sts → Al H (ps.take k) (sts.take k)
  | _, _, 0, _ => by rw [List.take_zero, List.take_zero]; exact .nil
  | _, _, k + 1, .nil => .nil
  | _, _, k + 1, .cons h ok r => .cons h ok (r.take k)
theorem Al.drop {H : Hp} : ∀ {ps : List Addr} {sts : List Stp} (k : Nat), Al H ps sts → Al H (ps.drop k) (sts.drop k)
  | _, _, 0, h => h
  | _, _, k + 1, .nil => .nil
  | _, _, k + 1, .cons h ok r => r.drop k
theorem Al.append {H : Hp} : ∀ {ps qs : List Addr} {sts tts : List Stp}, Al H ps sts → Al H qs tts → Al H (ps ++ qs) (sts ++ tts)
  | _, _, _, _, .nil, h => h
  | _, _, _, _, .cons h ok r, q => .cons h ok (r.append q)
theorem row_take {K : PySem.W.Frag} {H : Hp} {r : Addr} {sts : List Stp} {k : Int} {Q : VK} (hR : RowAt K H r sts) (h0 : 0 ≤ k) (q : ∀ r' H', Ext H H' → RowAt K H' r' (sts.take k.toNat) → Q (.ref r') H') : rSlA K (.ref r) none (some k) H Q := by
  obtain ⟨ps, hp, al⟩ := hR
  have ek : k = ((k.toNat : Nat) : Int) := by omega
  have hl : (ps.map V.ref).length = ps.length := List.length_map _
  refine ⟨r, _, rfl, hp, fun hw => ?_, fun hw p np => ?_⟩
  · have e := hw.2
    rw [ek, HT.sIx_nat, hl] at e
    refine q r H .refl ⟨ps, hp, ?_⟩
    have := al.len
    rw [List.take_of_length_le (by omega)]
    exact al
  · refine q p _ (Ext.refl.new np) ⟨ps.take k.toNat, SqT.of ?_, (al.take _).ext (Ext.refl.new np)⟩
    rw [upd_same]
    unfold cutV
    rw [ek, HT.sIx_nat, HT.sIx_none, List.drop_zero, Nat.sub_zero, List.map_take, hl]
    congr 2
    by_cases h : k.toNat ≤ ps.length
    · rw [Nat.min_eq_left (by omega)]; rw [Int.toNat_natCast]
    · rw [Nat.min_eq_right (by omega), List.take_of_length_le (by rw [hl]; omega), List.take_of_length_le (by rw [hl]; omega)]
theorem row_drop {K : PySem.W.Frag} {H : Hp} {r : Addr} {sts : List Stp} {k : Int} {Q : VK} (hR : RowAt K H r sts) (h0 : 0 ≤ k) (q : ∀ r' H', Ext H H' → RowAt K H' r' (sts.drop k.toNat) → Q (.ref r') H') : rSlA K (.ref r) (some k) none H Q := by
  obtain ⟨ps, hp, al⟩ := hR
  have ek : k = ((k.toNat : Nat) : Int) := by omega
  have hl : (ps.map V.ref).length = ps.length := List.length_map _
  refine ⟨r, _, rfl, hp, fun hw => ?_, fun hw p np => ?_⟩
  · have e := hw.1
    rw [ek, HT.sIx_nat, hl] at e
    have hlen := al.len
    by_cases hk : k.toNat = 0
    · refine q r H .refl ⟨ps, hp, ?_⟩
      rw [hk]
      exact al
    · have e2 : ps.length = 0 := by omega
      have e3 : ps = [] := List.eq_nil_of_length_eq_zero e2
      subst e3
      have e4 : sts = [] := List.eq_nil_of_length_eq_zero (by rw [← hlen]; rfl)
      subst e4
      refine q r H .refl ⟨[], hp, ?_⟩
      rw [List.drop_nil]
      exact .nil
  · refine q p _ (Ext.refl.new np) ⟨ps.drop k.toNat, SqT.of ?_, (al.drop _).ext (Ext.refl.new np)⟩
    rw [upd_same]
    unfold cutV
    rw [ek, HT.sIx_nat, HT.sIx_none, List.map_drop, hl, Int.toNat_natCast]
    congr 2
    by_cases h : k.toNat ≤ ps.length
    · rw [Nat.min_eq_left (by omega), List.take_of_length_le (by rw [List.length_drop, hl]; omega)]
    · rw [Nat.min_eq_right (by omega), Nat.sub_self, List.take_zero, List.drop_eq_nil_of_le (by rw [hl]; omega)]
theorem row_cat {K : PySem.W.Frag} {H : Hp} {r t : Addr} {s1 s2 : List Stp} {Q : VK} (h1 : RowAt K H r s1) (h2 : RowAt K H t s2) (hl : s1.length + s2.length ≤ 1000) (q : ∀ r' H', Ext H H' → RowAt K H' r' (s1 ++ s2) → Q (.ref r') H') : rCatA K (.ref r) (.ref t) H Q := by
  obtain ⟨ps, hp, al⟩ := h1
  obtain ⟨qs, hq, bl⟩ := h2
  have n1 : ps.map V.ref = [] → s1 = [] := fun e => by
    have := al.len
    rw [List.map_eq_nil_iff.mp e] at this
    exact List.eq_nil_of_length_eq_zero this.symm
  have n2 : qs.map V.ref = [] → s2 = [] := fun e => by
    have := bl.len
    rw [List.map_eq_nil_iff.mp e] at this
    exact List.eq_nil_of_length_eq_zero this.symm
  refine ⟨r, t, _, _, rfl, rfl, hp, hq, ?_, fun e => ?_, fun _ e => ?_, fun _ _ p np => ?_⟩
  · rw [List.length_map, List.length_map, al.len, bl.len, sizeLine_eq]; omega
  · rw [n1 e, List.nil_append] at q
    exact q t H .refl ⟨qs, hq, bl⟩
  · rw [n2 e, List.append_nil] at q
    exact q r H .refl ⟨ps, hp, al⟩
  · refine q p _ (Ext.refl.new np) ⟨ps ++ qs, SqT.of ?_, (al.append bl).ext (Ext.refl.new np)⟩
    rw [upd_same, List.map_append]
theorem mks_append (a b : List Stp) (l : List Nat) : mks (a ++ b) l = mks b (mks a l) := List.foldl_append ..
def spAdd (K : PySem.W.Frag) (C : Addr) : Sp := fun vs H Q _ => ∃ (o1 r1 o2 r2 : Addr) (s1 s2 : List Stp), vs = [.ref o1, .ref o2] ∧ FoldAt K C H o1 r1 s1 ∧ FoldAt K C H o2 r2 s2 ∧ s1.length + s2.length ≤ 6 ∧
  ∀ o r H', Ext H H' → FoldAt K C H' o r (s1 ++ s2) → Q (.ref o) H'
section
variable {P : Program} {w : World} {K : PySem.W.Frag} {mg : Str → Option Value} {base : Heap}
theorem ok_fadd {f Cf : Addr} {fd : FuncData} (F : Fun K "__add__" "Folding.__add__" sFoldingAdd f fd) (T : Nms mg) (Z : Fcl K mg Cf) (IC : C8.InsC K Cf) (Y : Fol P w K mg base Cf) : FnOk P w K mg base CX0 6 f fd ["self", "other"] (spAdd K Cf) := by
  refine F.ok scFoldingAdd (fun vs H Q E h => ?_) (fun cdv A outer s H vs Q E hr h => ?_)
  · obtain ⟨o1, r1, o2, r2, s1, s2, rfl, _⟩ := h
    rfl
  · obtain ⟨o1, r1, o2, r2, s1, s2, rfl, F1, F2, h6, q⟩ := h
    obtain ⟨fi, fdi, M, FI, bI⟩ := Y.made
    refine ⟨_, pss_cons (ps_if (pt_not (pt_val (pe_callB call_isi (by rfl) T.isi (by decide +kernel) (pa_cons (pv 1) (pa_cons (pe_glob (v := .ref Cf) rfl Z.mgC rfl) pa_nil))))) pss_never pss_nil)
      (pss_one (ps_ret (pe_make M FI hr rfl Z.mgC bI .nil pass0 (pa_cons (pe_op op_catA (pe_fld (pv 0) rfl) (pe_fld (pv 1) rfl)) pa_nil)))), ?_⟩
    obtain ⟨⟨d1, e1⟩, R1, l1⟩ := id F1
    obtain ⟨⟨d2, e2⟩, R2, l2⟩ := id F2
    refine ⟨_, rfl, _, _, .ref Cf, .ref Cf, true, rfl, .own Cf, .base (.ins e2 IC.cl IC.ha IC.hn IC.htk IC.hm), IC.me, true, rfl, iteF ?_⟩
    refine ⟨_, rfl, o1, Cf, d1, _, _, rfl, e1, Z.cl, Z.nS, rfl, _, rfl, o2, Cf, d2, _, _, rfl, e2, Z.cl, Z.nS, rfl, ?_⟩
    refine row_cat R1 R2 (by omega) fun r' H1 k1 R' x dx hx hdx ne => ?_
    refine made_ask R' (by rw [List.length_append]; omega) hx hdx ne fun H2 F2' k2 => ⟨rfl, q x r' H2 (k1.trans k2) F2'⟩
end
end Pd

set_option maxHeartbeats 4000000
namespace Pd
open PySem PySem.Spec PyProof.Rows L2 SX
/-! ### the third family of drawing defs -/
section
variable {P : Program} {w : World} {K : PySem.W.Frag} {mg : Str → Option Value} {base : Heap}
theorem p6' : (10 : Int) ^ (6 : Int).toNat = 1000000 := by decide +kernel
end
/-- five signs, in a list whose tokens are known and below b -/
structure FewAt (b : Nat) (H : Hp) (a : Addr) (gs : List Nat) : Prop where
  at_ : TxtsB b H a (gs.map sg)
  len : gs.length = 5
  ok : ∀ c ∈ gs, c ∈ CH
theorem FewAt.same {b : Nat} {H H' : Hp} {a : Addr} {gs : List Nat} (h : FewAt b H a gs) (e : H' a = H a) : FewAt b H' a gs := ⟨h.at_.same e, h.len, h.ok⟩
theorem FewAt.is {b : Nat} {H : Hp} {a : Addr} {gs : List Nat} (h : FewAt b H a gs) : ∃ o, H a = some (.frz o (.lst ((gs.map sg).map V.str))) := by
  obtain ⟨its, n, m, k, e, _⟩ := h.at_
  exact ⟨_, e⟩
theorem FewAt.ext {b : Nat} {H H' : Hp} {a : Addr} {gs : List Nat} (h : FewAt b H a gs) (k : Ext H H') : FewAt b H' a gs := by
  obtain ⟨o, e⟩ := h.is
  exact h.same ((k a _ e).trans e.symm)
theorem FewAt.ne {b : Nat} {H : Hp} {j a : Addr} {gs : List Nat} {xs : List V} (h : FewAt b H a gs) (hj : H j = some (.lst xs)) : a ≠ j := by
  obtain ⟨o, e⟩ := h.is
  rintro rfl; rw [e] at hj; cases hj
theorem FewAt.kp {b : Nat} {H H' : Hp} {j a : Addr} {gs : List Nat} {xs : List V} (h : FewAt b H a gs) (k : Kp j H H') (hj : H j = some (.lst xs)) : FewAt b H' a gs := by
  obtain ⟨o, e⟩ := h.is
  exact h.same ((k a _ (h.ne hj) e).trans e.symm)
theorem FewAt.item {b : Nat} {H : Hp} {a : Addr} {gs : List Nat} (h : FewAt b H a gs) {r : Int} (h0 : 0 ≤ r) (h1 : r < 5) : ∃ c ∈ CH, (gs.map sg)[r.toNat]? = some (sg c) := by
  have e : r.toNat < gs.length := by rw [h.len]; omega
  exact ⟨gs[r.toNat], h.ok _ (List.getElem_mem e), by simp [e]⟩
theorem FewAt.item' {b : Nat} {H : Hp} {a : Addr} {gs : List Nat} (h : FewAt b H a gs) {r : Int} (h0 : 0 ≤ r) (h1 : r < 5) : ∃ c ∈ CH, atI ((gs.map sg).map V.str) r = some (.str (sg c)) := by
  obtain ⟨c, hc, e⟩ := h.item h0 h1
  refine ⟨c, hc, ?_⟩
  have z := atI_nat (xs := (gs.map sg).map V.str) (j := r.toNat) (v := .str (sg c)) (by rw [List.getElem?_map, e]; rfl)
  have e2 : ((r.toNat : Nat) : Int) = r := by omega
  rw [e2] at z
  exact z
theorem FewAt.len' {b : Nat} {H : Hp} {a : Addr} {gs : List Nat} (h : FewAt b H a gs) : (((gs.map sg).map V.str).length : Int) = 5 := by
  rw [List.length_map, List.length_map, h.len]; rfl
theorem FewAt.seq {K : PySem.W.Frag} {b : Nat} {H : Hp} {a : Addr} {gs : List Nat} (h : FewAt b H a gs) : SqL K H a ((gs.map sg).map V.str) := h.at_.txts.seq
/-- a step whose text, if it is one of once, has a token below b -/
def StpB (b : Nat) (H : Hp) (p : Addr) (st : Stp) : Prop := StpAt H p st ∧ ∀ a, st = .once a → OnceB b H p (sg a)
theorem StpB.same {b : Nat} {H H' : Hp} {p : Addr} {st : Stp} (h : StpB b H p st) (e : ∀ o, H p = Option.some o → H' p = Option.some o) : StpB b H' p st :=
  ⟨h.1.same e, fun a ea => by
    obtain ⟨n, t0, t, e1, r⟩ := h.2 a ea
    exact ⟨n, t0, t, e _ e1, r⟩⟩
theorem StpB.ext {b : Nat} {H H' : Hp} {p : Addr} {st : Stp} (h : StpB b H p st) (k : Ext H H') : StpB b H' p st := h.same fun o x => k p o x
theorem StpB.kp {b : Nat} {H H' : Hp} {j p : Addr} {st : Stp} {xs : List V} (h : StpB b H p st) (k : Kp j H H') (hj : H j = Option.some (.lst xs)) : StpB b H' p st := h.same fun o x => k p o (by
  rintro rfl
  obtain ⟨o', x', ne⟩ := h.1.some
  rw [hj] at x'; cases x'
  exact ne _ rfl) x
inductive AlB (b : Nat) (H : Hp) : List Addr → List Stp → Prop where
  | nil : AlB b H [] []
  | cons {p : Addr} {st : Stp} {ps : List Addr} {sts : List Stp} (h : StpB b H p st) (ok : st.ok) (r : AlB b H ps sts) : AlB b H (p :: ps) (st :: sts)
section
variable {b : Nat} {H H' : Hp}
theorem AlB.al : ∀ {ps : List Addr} {sts : List Stp}, AlB b H ps sts → Al H ps sts
  | _, _, .nil => .nil
  | _, _, .cons h ok r => .cons h.1 ok r.al
theorem AlB.ext (k : Ext H H') : ∀ {ps : List Addr} {sts : List Stp}, AlB b H ps sts → AlB b H' ps sts
  | _, _, .nil => .nil
  | _, _, .cons h ok r => .cons (h.ext k) ok (r.ext k)
theorem AlB.kp {j : Addr} {xs : List V} (k : Kp j H H') (hj : H j = some (.lst xs)) : ∀ {ps : List Addr} {sts : List Stp}, AlB b H ps sts → AlB b H' ps sts
  | _, _, .nil => .nil
  | _, _, .cons h ok r => .cons (h.kp k hj) ok (r.kp k hj)
theorem AlB.take : ∀ {ps : List Addr} {sts : List Stp} (k : Nat), AlB b H ps sts → AlB b H (ps.take k) (sts.take k)
  | _, _, 0, _ => by rw [List.take_zero, List.take_zero]; exact .nil
  | _, _, k + 1, .nil => .nil
  | _, _, k + 1, .cons h ok r => .cons h ok (r.take k)
theorem AlB.drop : ∀ {ps : List Addr} {sts : List Stp} (k : Nat), AlB b H ps sts → AlB b H (ps.drop k) (sts.drop k)
  | _, _, 0, h => h
  | _, _, k + 1, .nil => .nil
  | _, _, k + 1, .cons h ok r => r.drop k
theorem AlB.append : ∀ {ps qs : List Addr} {sts tts : List Stp}, AlB b H ps sts → AlB b H qs tts → AlB b H (ps ++ qs) (sts ++ tts)
  | _, _, _, _, .nil, h => h
  | _, _, _, _, .cons h ok r, q => .cons h ok (r.append q)
theorem AlB.get : ∀ {ps : List Addr} {sts : List Stp} {i : Nat} {p : Addr}, AlB b H ps sts → ps[i]? = some p → ∃ st, sts[i]? = some st ∧ StpB b H p st ∧ st.ok
  | _, _, _, _, .nil, e => by simp at e
  | _, _, 0, _, .cons h ok r, e => by
    simp at e; subst e
    exact ⟨_, by simp, h, ok⟩
  | _, _, i + 1, _, .cons h ok r, e => by
    obtain ⟨st, e1, h1⟩ := r.get (i := i) (by simpa using e)
    exact ⟨st, by simpa using e1, h1⟩
end
def RowB (K : PySem.W.Frag) (b : Nat) (H : Hp) (r : Addr) (sts : List Stp) : Prop := ∃ ps : List Addr, SqT K H r (ps.map V.ref) ∧ AlB b H ps sts
section
variable {K : PySem.W.Frag} {b : Nat} {H H' : Hp} {r t : Addr} {sts s1 s2 : List Stp}
theorem RowB.row (h : RowB K b H r sts) : RowAt K H r sts := by
  obtain ⟨ps, e, a⟩ := h
  exact ⟨ps, e, a.al⟩
theorem RowB.ext (h : RowB K b H r sts) (k : Ext H H') : RowB K b H' r sts := by
  obtain ⟨ps, e, a⟩ := h
  exact ⟨ps, sqT_keep e (fun o x => k r o x), a.ext k⟩
theorem RowB.kp {j : Addr} {xs : List V} (h : RowB K b H r sts) (k : Kp j H H') (hj : H j = some (.lst xs)) : RowB K b H' r sts := by
  obtain ⟨ps, e, a⟩ := h
  exact ⟨ps, sqT_noLst e k hj, a.kp k hj⟩
theorem RowB.ok (h : RowB K b H r sts) : ∀ st ∈ sts, st.ok := by
  obtain ⟨ps, _, a⟩ := h
  exact a.al.ok
theorem rowB_take {σ : L2.St} {k : Int} {Q : VK} (hR : RowB K b H r sts) (h0 : 0 ≤ k) (q : ∀ r' H', Ext H H' → RowB K b H' r' (sts.take k.toNat) → Q (.ref r') H') : rSlA K (.ref r) none (some k) H Q := by
  obtain ⟨ps, hp, al⟩ := hR
  have ek : k = ((k.toNat : Nat) : Int) := by omega
  have hl : (ps.map V.ref).length = ps.length := List.length_map _
  have alen := al.al.len
  refine ⟨r, _, rfl, hp, fun hw => ?_, fun hw p np => ?_⟩
  · have e := hw.2
    rw [ek, HT.sIx_nat, hl] at e
    refine q r H .refl ⟨ps, hp, ?_⟩
    rw [List.take_of_length_le (by omega)]
    exact al
  · refine q p _ (Ext.refl.new np) ⟨ps.take k.toNat, SqT.of ?_, (al.take _).ext (Ext.refl.new np)⟩
    rw [upd_same]
    unfold cutV
    rw [ek, HT.sIx_nat, HT.sIx_none, List.drop_zero, Nat.sub_zero, List.map_take, hl]
    congr 2
    by_cases h : k.toNat ≤ ps.length
    · rw [Nat.min_eq_left (by omega)]; rw [Int.toNat_natCast]
    · rw [Nat.min_eq_right (by omega), List.take_of_length_le (by rw [hl]; omega), List.take_of_length_le (by rw [hl]; omega)]
theorem rowB_drop {σ : L2.St} {k : Int} {Q : VK} (hR : RowB K b H r sts) (h0 : 0 ≤ k) (q : ∀ r' H', Ext H H' → RowB K b H' r' (sts.drop k.toNat) → Q (.ref r') H') : tNoPart σ H fun u H3 => rSlA K (.ref r) (some k) u H3 Q := by
  obtain ⟨ps, hp, al⟩ := hR
  have ek : k = ((k.toNat : Nat) : Int) := by omega
  have hl : (ps.map V.ref).length = ps.length := List.length_map _
  have alen := al.al.len
  show rSlA K (.ref r) (some k) none H Q
  refine ⟨r, _, rfl, hp, fun hw => ?_, fun hw p np => ?_⟩
  · have e := hw.1
    rw [ek, HT.sIx_nat, hl] at e
    by_cases hk : k.toNat = 0
    · refine q r H .refl ⟨ps, hp, ?_⟩
      rw [hk]
      exact al
    · have e3 : ps = [] := List.eq_nil_of_length_eq_zero (by omega)
      subst e3
      have e4 : sts = [] := List.eq_nil_of_length_eq_zero (by rw [← alen]; rfl)
      subst e4
      refine q r H .refl ⟨[], hp, ?_⟩
      rw [List.drop_nil]
      exact .nil
  · refine q p _ (Ext.refl.new np) ⟨ps.drop k.toNat, SqT.of ?_, (al.drop _).ext (Ext.refl.new np)⟩
    rw [upd_same]
    unfold cutV
    rw [ek, HT.sIx_nat, HT.sIx_none, List.map_drop, hl, Int.toNat_natCast]
    congr 2
    by_cases h : k.toNat ≤ ps.length
    · rw [Nat.min_eq_left (by omega), List.take_of_length_le (by rw [List.length_drop, hl]; omega)]
    · rw [Nat.min_eq_right (by omega), Nat.sub_self, List.take_zero, List.drop_eq_nil_of_le (by rw [hl]; omega)]
theorem rowB_cat {Q : VK} (h1 : RowB K b H r s1) (h2 : RowB K b H t s2) (hl : s1.length + s2.length ≤ 1000) (q : ∀ r' H', Ext H H' → RowB K b H' r' (s1 ++ s2) → Q (.ref r') H') : rCatA K (.ref r) (.ref t) H Q := by
  obtain ⟨ps, hp, al⟩ := h1
  obtain ⟨qs, hq, bl⟩ := h2
  have l1 := al.al.len
  have l2 := bl.al.len
  have n1 : ps.map V.ref = [] → s1 = [] := fun e => by
    rw [List.map_eq_nil_iff.mp e] at l1
    exact List.eq_nil_of_length_eq_zero l1.symm
  have n2 : qs.map V.ref = [] → s2 = [] := fun e => by
    rw [List.map_eq_nil_iff.mp e] at l2
    exact List.eq_nil_of_length_eq_zero l2.symm
  refine ⟨r, t, _, _, rfl, rfl, hp, hq, ?_, fun e => ?_, fun _ e => ?_, fun _ _ p np => ?_⟩
  · rw [List.length_map, List.length_map, l1, l2, sizeLine_eq]; omega
  · rw [n1 e, List.nil_append] at q
    exact q t H .refl ⟨qs, hq, bl⟩
  · rw [n2 e, List.append_nil] at q
    exact q r H .refl ⟨ps, hp, al⟩
  · refine q p _ (Ext.refl.new np) ⟨ps ++ qs, SqT.of ?_, (al.append bl).ext (Ext.refl.new np)⟩
    rw [upd_same, List.map_append]
end
inductive RwB (K : PySem.W.Frag) (b : Nat) (H : Hp) : List Addr → List (List Stp) → Prop where
  | nil : RwB K b H [] []
  | cons {r : Addr} {sts : List Stp} {rs : List Addr} {rws : List (List Stp)} (h : RowB K b H r sts) (l : sts.length ≤ 6) (t : RwB K b H rs rws) : RwB K b H (r :: rs) (sts :: rws)
section
variable {K : PySem.W.Frag} {b : Nat} {H H' : Hp}
theorem RwB.ext (k : Ext H H') : ∀ {rs : List Addr} {rws : List (List Stp)}, RwB K b H rs rws → RwB K b H' rs rws
  | _, _, .nil => .nil
  | _, _, .cons h l t => .cons (h.ext k) l (t.ext k)
theorem RwB.kp {j : Addr} {ys : List V} (hj : H j = some (.lst ys)) (k : Kp j H H') : ∀ {rs : List Addr} {rws : List (List Stp)}, RwB K b H rs rws → RwB K b H' rs rws
  | _, _, .nil => .nil
  | _, _, .cons h l t => .cons (h.kp k hj) l (t.kp hj k)
theorem RwB.snoc {r : Addr} {sts : List Stp} (h : RowB K b H r sts) (l : sts.length ≤ 6) : ∀ {rs : List Addr} {rws : List (List Stp)}, RwB K b H rs rws → RwB K b H (rs ++ [r]) (rws ++ [sts])
  | _, _, .nil => .cons h l .nil
  | _, _, .cons h' l' t => .cons h' l' (t.snoc h l)
theorem RwB.len : ∀ {rs : List Addr} {rws : List (List Stp)}, RwB K b H rs rws → rs.length = rws.length
  | _, _, .nil => rfl
  | _, _, .cons _ _ t => congrArg (· + 1) t.len
theorem RwB.get : ∀ {rs : List Addr} {rws : List (List Stp)} {i : Nat} {r : Addr}, RwB K b H rs rws → rs[i]? = some r → ∃ sts, rws[i]? = some sts ∧ RowB K b H r sts ∧ sts.length ≤ 6
  | _, _, _, _, .nil, e => by simp at e
  | _, _, 0, _, .cons h l t, e => by
    simp at e; subst e
    exact ⟨_, by simp, h, l⟩
  | _, _, i + 1, _, .cons h l t, e => by
    obtain ⟨sts, e1, h1⟩ := t.get (i := i) (by simpa using e)
    exact ⟨sts, by simpa using e1, h1⟩
theorem RwB.set : ∀ {rs : List Addr} {rws : List (List Stp)} {i : Nat} {r : Addr} {sts : List Stp}, RwB K b H rs rws → RowB K b H r sts → sts.length ≤ 6 → RwB K b H (rs.set i r) (rws.set i sts)
  | _, _, _, _, _, .nil, _, _ => .nil
  | _, _, 0, _, _, .cons h l t, h', l' => .cons h' l' t
  | _, _, i + 1, _, _, .cons h l t, h', l' => .cons h l (t.set h' l')
theorem RwB.rw : ∀ {rs : List Addr} {rws : List (List Stp)}, RwB K b H rs rws → Rw K H rs rws
  | _, _, .nil => .nil
  | _, _, .cons h l t => .cons h.row l t.rw
end
end Pd

set_option maxHeartbeats 4000000
namespace Pd
open PySem PySem.Spec PyProof.Rows L2
/-! ### a for, its body run where n tokens are out -/
theorem psn_for {n : Nat} {X : Cx} {tg over : Expr} {sts : List Stmt} {wi : TI} {g : TG} {tb : TS} {pos : Pos} (own : PassesOwn (model X.prog X.w) X.A X.env X.xe) (calm : X.calm = true) (hi : PI X tg over wi) (hg : PG X tg g) (hb : PSsn n X sts tb)
    (fs : ∀ x, foldedSetIterable over X.env x = pure x := by intro _; rfl) : PSn n X (.For tg over sts [] pos) (tFor wi g tb) := by
  constructor
  intro pins s σ H D l0 I h
  refine wpAny_For (thk l0 (hi.run pins s σ H _ I h) fun v t1 m1 k1 => thk m1 k1 fun iv t2 m2 k2 => ?_) fs
  obtain ⟨it, fp, tn, J, H2, rfl, I2, T, at2, fr2, W, ⟨q0, w0⟩, turn⟩ := k2
  have same : ∀ {G : Hp}, (∀ b ∈ fp, G b = none) → ∀ b ∈ fp, FpOk X pins G b := fun z b hb => ⟨z b hb, (fr2 b hb).2⟩
  refine codeAny_forLoop_any (fun c u => n ≤ u.toks ∧ ∃ i ρ G, Inv X pins ρ G u ∧ tn i u.heap ∧ (∀ b ∈ fp, G b = none) ∧ W i c ρ G) ?_ q0 ⟨m2, 0, σ, H2, I2, at2, fun b hb => (fr2 b hb).1, w0⟩
  rintro c u3 ⟨l3, i, ρ, G3, J3, at3, fr3, w3⟩
  rcases turn i c ρ G3 w3 with ⟨stop, fin⟩ | ⟨go, N, hN, step⟩
  · refine wpAny_passesOwn own (thn (T.done X rfl rfl rfl calm i pins u3 ρ G3 X.xe J3 (same fr3) at3 stop) ?_)
    rintro r u4 ⟨rfl, J4⟩
    exact wpAny_execs_nil ⟨ρ, G3, J4, fin⟩
  refine wpAny_passesOwn own (thk l3 (T.item X rfl rfl rfl calm i pins u3 ρ G3 X.xe J3 (same fr3) at3 go) ?_)
  rintro r u4 l4 ⟨z, rfl, k4⟩
  refine wpAny_passesOwn own (thk l4 k4 ?_)
  rintro _ u5 l5 ⟨x, G5, J5, r5, y5, at5, fr5⟩
  have J6 := J5.pinned (same fr5) (T.obj _ _ at5)
  refine wpAny_passesOwn own (thk l5 (hg.run _ u5 ρ G5 x z _ J6 r5 (step x G5 y5)) ?_)
  rintro _ u6 l6 ⟨ρ6, G6, J7, q6⟩
  refine wpAny_passesOwn own (thk l6 (hb.run _ u6 ρ6 G6 _ l6 J7 q6) ?_)
  intro f u7 l7 q7
  have more : ∀ {ρ7 : L2.St} {G7 : Hp}, Inv X (pins ++ pinsAt fp u5.heap) ρ7 G7 u7 → N ρ7 G7 → ∃ m, m < c ∧ n ≤ u7.toks ∧ ∃ i ρ' G', Inv X pins ρ' G' u7 ∧ tn i u7.heap ∧ (∀ b ∈ fp, G' b = none) ∧ W i m ρ' G' := by
    intro ρ7 G7 K7 n7
    obtain ⟨m', lt, w7⟩ := hN ρ7 G7 n7
    have pin : ∀ b ∈ fp, ∀ o, u5.heap.get? b = some o → _ := fun b hb o e => K7.pin (b, o) (List.mem_append_right _ (List.mem_append_right _ (mem_pinsAt hb e)))
    refine ⟨m', lt, l7, i + 1, ρ7, G7, K7.unpinned, T.keep _ _ _ at5 fun b hb o e => (pin b hb o e).1, fun b hb => ?_, w7⟩
    obtain ⟨o, e, _⟩ := T.obj _ _ at5 b hb
    exact (pin b hb o e).2.1
  cases f with
  | next => obtain ⟨ρ7, G7, K7, n7⟩ := q7; exact more K7 n7
  | cont => obtain ⟨ρ7, G7, K7, n7⟩ := q7; exact more K7 n7
  | brk => obtain ⟨ρ7, G7, K7, e7⟩ := q7; exact ⟨ρ7, G7, K7.unpinned, e7⟩
  | ret v => obtain ⟨x7, ρ7, G7, K7, r7, e7⟩ := q7; exact ⟨x7, ρ7, G7, K7.unpinned, r7, e7⟩
/-- two names at once, n tokens out -/
theorem psn_par {n : Nat} {X : Cx} {i j : Nat} {kx ky : Str} {e1 e2 : Expr} {tl : TA} {b1 b2 b3 b4 b5 : Pos} {k1 k2 : Nat} (calm : X.calm = true) (nd : X.N.Nodup) (hi : X.N[i]? = some kx) (hj : X.N[j]? = some ky) (ne : i ≠ j)
    (vx : X.env.scope.names.lookup kx = some .local) (vy : X.env.scope.names.lookup ky = some .local) (ha : PAn n X [e1, e2] tl)
    (sw : swappedStores [.Tuple [.Name kx b1, .Name ky b2] k1 b3] (.Tuple [e1, e2] k2 b4) X.env = pure (some [kx, ky]))
    (sole : swapsWithSole [.Tuple [.Name kx b1, .Name ky b2] k1 b3] (.Tuple [e1, e2] k2 b4) b5.line X.env = pure false := by rfl) :
    PSn n X (.Assign [.Tuple [.Name kx b1, .Name ky b2] k1 b3] (.Tuple [e1, e2] k2 b4) b5) (tPar i j tl) := by
  constructor
  intro pins s σ H D l0 I h
  rw [exec_Assign_arm]
  refine wpAny_bind (wpAny_standAt ?_)
  rw [sole]
  refine wpAny_bind (wpAny_pure ?_)
  rw [if_neg (by decide)]
  refine wpAny_bind (Tuple_ (thn (ha.run _ pins s σ H _ l0 I h) ?_))
  rintro us t1 ⟨vs, H1, J1, rs, v, z, rfl, fin⟩
  have two : ∃ c d, us = [c, d] ∧ RelV v c ∧ RelV z d := by
    rcases rs with _ | ⟨rv, rs⟩
    rcases rs with _ | ⟨rz, rs⟩
    cases rs
    exact ⟨_, _, rfl, rv, rz⟩
  obtain ⟨c, d, rfl, rv, rz⟩ := two
  refine wpAny_newObj_type ?_ (by show 2 ≤ sizeLine; decide)
  have J2 : Inv X pins σ H1 { t1 with heap := t1.heap.push { cls := .type "tuple", data := .seq [c, d].toArray } } := J1.kept (t' := t1.toks) fun b o q => Heap.get?_push_of_some _ q
  rw [sw]
  refine wpAny_bind (wpAny_pure ?_)
  show wpAny (model X.prog X.w) X.A (do rule "assign.swapped-stores"; let items ← unpackItems (.ref t1.heap.objs.size) 2 none; assignInOrder [fun v => bindName X.env ky v, fun v => bindName X.env kx v] items.reverse; pure Flow.next) _ _ _
  refine wpAny_bind (wpAny_rule (wpAny_bind (unpackItems_tuple (items := #[c, d]) (I.ok.hd calm) (IsTup.new t1.heap _) fun g hg => ?_)))
  have J3 := J2.kept (h' := g) (t' := t1.toks) fun b o q => hg b o (Nat.ne_of_lt (Heap.lt_size q)) q
  show wpAny _ _ (assignInOrder [fun v => bindName X.env ky v, fun v => bindName X.env kx v] [d, c] >>= fun _ => pure Flow.next) _ _ _
  refine wpAny_bind (assignInOrder_cons (wpAny_bindName (store_ok J3 nd hj (.inl vy) rz (fun t2 J4 => ?_) (.inr vy))))
  refine assignInOrder_cons (wpAny_bindName (store_ok J4 nd hi (.inl vx) rv (fun t3 J5 => assignInOrder_nil (wpAny_pure ?_)) (.inr vx)))
  rw [List.set_comm _ _ (Ne.symm ne)] at J5
  exact ⟨_, H1, J5, fin⟩
theorem PSsn.nox {n : Nat} {X : Cx} {sts : List Stmt} {t : TS} (h : PSsn n X.nox sts t) : PSsn n X sts t :=
  ⟨fun pins s σ H D l I q => wpAny_mono (h.run pins s σ H D l (I.wish _) q) (fun _ _ z => z.unwish) fun _ _ z => z.elim⟩
end Pd

set_option maxHeartbeats 4000000
namespace Pd
open PySem PySem.Spec PyProof.Rows L2
/-! ### or in a test, and as a value, n tokens out -/
structure PWn (n : Nat) (X : Cx) (e : Expr) (t : TT) : Prop where
  run : ∀ (whole : Sem Value) (pins : List (Addr × Obj)) (s : Shared) (σ : L2.St) (H : Hp) (Q : Bool → Hp → Prop), n ≤ s.toks → Inv X pins σ H s → t σ H Q → wpAny (model X.prog X.w) X.A (isTrue e X.env whole) (TP X pins σ Q) X.xe s
section
variable {X : Cx} {n : Nat} {a b : Expr} {more : List Expr} {t u : TT} {pos : Pos}
theorem PWn.ptn {e : Expr} (h : PWn n X e t) : PTn n X e t := ⟨fun pins s σ H Q l I q => h.run _ pins s σ H Q l I q⟩
theorem pwn_or1 (ha : PTn n X a t) : PWn n X (.BoolOp .Or [a] pos) t := by
  constructor
  intro wh pins s σ H Q l I h
  refine isTrue_or (thn (ha.run pins s σ H Q l I h) ?_)
  rintro (_ | _) s1 q
  · exact isTrue_or_nil q
  · exact q
theorem pwn_or (ha : PTn n X a t) (hb : PWn n X (.BoolOp .Or (b :: more) pos) u) : PWn n X (.BoolOp .Or (a :: b :: more) pos) (tOr t u) := by
  constructor
  intro wh pins s σ H Q l I h
  refine isTrue_or (thk l (ha.run pins s σ H _ l I h) ?_)
  rintro (_ | _) s1 l1 ⟨H1, I1, q⟩
  · exact hb.run wh pins s1 σ H1 Q l1 I1 q
  · exact ⟨H1, I1, q⟩
theorem pen_one {op} {e : Expr} {te : TE} (h : PEn n X e te) : PEn n X (.BoolOp op [e] pos) te := ⟨fun pins s σ H Q l I q => BoolOp_one (h.run pins s σ H Q l I q)⟩
theorem pen_and {ta tb : TE} (ha : PEn n X a ta) (hb : PEn n X (.BoolOp .And (b :: more) pos) tb) : PEn n X (.BoolOp .And (a :: b :: more) pos) (tAndV ta tb) := by
  constructor
  intro pins s σ H Q l I h
  refine BoolOp_and (thk l (ha.run pins s σ H _ l I h) ?_)
  rintro v s1 l1 ⟨x, H1, I1, r1, c, rfl, q⟩
  cases r1
  refine wpAny_truthy_bool ?_
  cases c
  · exact ⟨.bl false, H1, I1, rfl, q⟩
  · exact hb.run pins s1 σ H1 Q l1 I1 q
end
/-- what is known behind a statement is said, n tokens out -/
theorem pssn_cut {n : Nat} {X : Cx} {st : Stmt} {sts : List Stmt} {t u : TS} (h1 : PSn n X st t) (h2 : PSsn n X sts u) : PSsn n X (st :: sts) (C8.tCut t u) := by
  constructor
  intro pins s σ H D l I h
  obtain ⟨Mid, q1, q2⟩ := h
  refine wpAny_execs_cons (thk l (h1.run pins s σ H { D with nx := Mid } l I q1) ?_)
  rintro f s1 l1 q
  cases f with
  | next =>
    obtain ⟨ρ, G, J, m⟩ := q
    exact h2.run pins s1 ρ G D l1 J (q2 ρ G m)
  | ret v => exact q
  | brk => exact q
  | cont => exact q
end Pd

set_option maxHeartbeats 4000000
namespace Pd
open PySem PySem.Spec PyProof.Rows L2
/-! ### what is known of tokens grows: b, never more than are out -/
structure EndsB where
  nx : Nat → L2.St → Hp → Prop
  rt : Nat → VK
  bk : Nat → L2.St → Hp → Prop := fun _ _ _ => False
  ct : Nat → L2.St → Hp → Prop := fun _ _ _ => False
def EndsB.to (D : EndsB) (b : Nat) : Ends := { nx := D.nx b, rt := D.rt b, bk := D.bk b, ct := D.ct b }
abbrev TSB := EndsB → Nat → L2.St → Hp → Prop
abbrev TEB := Nat → L2.St → Hp → (Nat → VK) → Prop
abbrev TAB := Nat → L2.St → Hp → (Nat → List V → Hp → Prop) → Prop
structure PEB (X : Cx) (e : Expr) (t : TEB) : Prop where
  run : ∀ (pins : List (Addr × Obj)) (s : Shared) (σ : L2.St) (H : Hp) (Q : Nat → VK) (b : Nat), b ≤ s.toks → Inv X pins σ H s → t b σ H Q → wpAny (model X.prog X.w) X.A (eval e X.env) (fun u s' => ∃ b', b' ≤ s'.toks ∧ EP X pins σ (Q b') u s') X.xe s
structure PAB (X : Cx) (es : List Expr) (t : TAB) : Prop where
  run : ∀ (pos : Pos) (pins : List (Addr × Obj)) (s : Shared) (σ : L2.St) (H : Hp) (Q : Nat → List V → Hp → Prop) (b : Nat), b ≤ s.toks → Inv X pins σ H s → t b σ H Q → wpAny (model X.prog X.w) X.A (spliced (backTo pos (starEach es X.env))) (fun us s' => ∃ b', b' ≤ s'.toks ∧ AP X pins σ (Q b') us s') X.xe s
structure PSB (X : Cx) (st : Stmt) (t : TSB) : Prop where
  run : ∀ (pins : List (Addr × Obj)) (s : Shared) (σ : L2.St) (H : Hp) (D : EndsB) (b : Nat), b ≤ s.toks → Inv X pins σ H s → t D b σ H → wpAny (model X.prog X.w) X.A (exec st X.env) (fun f s' => ∃ b', b' ≤ s'.toks ∧ SP X pins (D.to b') f s') X.xe s
structure PSsB (X : Cx) (sts : List Stmt) (t : TSB) : Prop where
  run : ∀ (pins : List (Addr × Obj)) (s : Shared) (σ : L2.St) (H : Hp) (D : EndsB) (b : Nat), b ≤ s.toks → Inv X pins σ H s → t D b σ H → wpAny (model X.prog X.w) X.A (execs sts X.env) (fun f s' => ∃ b', b' ≤ s'.toks ∧ SP X pins (D.to b') f s') X.xe s
def bE (t : Nat → TE) : TEB := fun b σ H Q => t b σ H (Q b)
def bA (t : Nat → TA) : TAB := fun b σ H Q => t b σ H (Q b)
def bS (t : Nat → TS) : TSB := fun D b σ H => t b (D.to b) σ H
section
variable {X : Cx} {e a c : Expr} {es : List Expr} {st : Stmt} {rest sts : List Stmt} {pos p : Pos}
theorem peb {t : Nat → TE} (h : ∀ n, PEn n X e (t n)) : PEB X e (bE t) :=
  ⟨fun pins s σ H Q b l I q => thk l ((h b).run pins s σ H (Q b) l I q) fun _ _ l' z => ⟨b, l', z⟩⟩
theorem peb0 {t : TE} (h : PE X e t) : PEB X e (bE fun _ => t) := peb fun _ => pen h
theorem pab {t : Nat → TA} (h : ∀ n, PAn n X es (t n)) : PAB X es (bA t) :=
  ⟨fun pos pins s σ H Q b l I q => thk l ((h b).run pos pins s σ H (Q b) l I q) fun _ _ l' z => ⟨b, l', z⟩⟩
theorem psb {t : Nat → TS} (h : ∀ n, PSn n X st (t n)) : PSB X st (bS t) :=
  ⟨fun pins s σ H D b l I q => thk l ((h b).run pins s σ H (D.to b) l I q) fun _ _ l' z => ⟨b, l', z⟩⟩
theorem psb0 {t : TS} (h : PS X st t) : PSB X st (bS fun _ => t) := psb fun _ => psn h
theorem pssb {t : Nat → TS} (h : ∀ n, PSsn n X sts (t n)) : PSsB X sts (bS t) :=
  ⟨fun pins s σ H D b l I q => thk l ((h b).run pins s σ H (D.to b) l I q) fun _ _ l' z => ⟨b, l', z⟩⟩
theorem pssb0 {t : TS} (h : PSs X sts t) : PSsB X sts (bS fun _ => t) := pssb fun _ => pssn h
def tSeqB (t u : TSB) : TSB := fun D b σ H => t { D with nx := u D } b σ H
theorem pssb_cons {t u : TSB} (h1 : PSB X st t) (h2 : PSsB X rest u) : PSsB X (st :: rest) (tSeqB t u) := by
  constructor
  intro pins s σ H D b l I h
  refine wpAny_execs_cons (thn (h1.run pins s σ H { D with nx := u D } b l I h) ?_)
  rintro f s1 ⟨b1, l1, q⟩
  cases f with
  | next =>
    obtain ⟨σ', H', J, q'⟩ := q
    exact h2.run pins s1 σ' H' D b1 l1 J q'
  | ret w => exact ⟨b1, l1, q⟩
  | brk => exact ⟨b1, l1, q⟩
  | cont => exact ⟨b1, l1, q⟩
theorem pssb_one {t : TSB} (h : PSB X st t) : PSsB X [st] t := by
  constructor
  intro pins s σ H D b l I h1
  refine wpAny_execs_cons (thn (h.run pins s σ H D b l I h1) ?_)
  rintro f s1 ⟨b1, l1, q⟩
  cases f with
  | next => exact wpAny_execs_nil ⟨b1, l1, q⟩
  | ret w => exact ⟨b1, l1, q⟩
  | brk => exact ⟨b1, l1, q⟩
  | cont => exact ⟨b1, l1, q⟩
def tNextB : TSB := fun D b σ H => D.nx b σ H
theorem pssb_nil : PSsB X [] tNextB := ⟨fun pins s σ H D b l I h => wpAny_execs_nil ⟨b, l, σ, H, I, h⟩⟩
/-- what is known behind a statement is said -/
def tCutB (t u : TSB) : TSB := fun D b σ H => ∃ Mid : Nat → L2.St → Hp → Prop, t { D with nx := Mid } b σ H ∧ ∀ b σ' H', Mid b σ' H' → u D b σ' H'
theorem pssb_cut {t u : TSB} (h1 : PSB X st t) (h2 : PSsB X rest u) : PSsB X (st :: rest) (tCutB t u) := by
  constructor
  intro pins s σ H D b l I h
  obtain ⟨Mid, q1, q2⟩ := h
  refine wpAny_execs_cons (thn (h1.run pins s σ H { D with nx := Mid } b l I q1) ?_)
  rintro f s1 ⟨b1, l1, q⟩
  cases f with
  | next =>
    obtain ⟨ρ, G, J, m⟩ := q
    exact h2.run pins s1 ρ G D b1 l1 J (q2 b1 ρ G m)
  | ret w => exact ⟨b1, l1, q⟩
  | brk => exact ⟨b1, l1, q⟩
  | cont => exact ⟨b1, l1, q⟩
def tIfB (c : Nat → TT) (t u : TSB) : TSB := fun D b σ H => c b σ H fun d H1 => if d = true then t D b σ H1 else u D b σ H1
theorem psb_if {tc : Nat → TT} {t u : TSB} {s1 s2 : List Stmt} (hc : ∀ n, PTn n X c (tc n)) (ha : PSsB X s1 t) (hb : PSsB X s2 u) : PSB X (.If c s1 s2 pos) (tIfB tc t u) := by
  constructor
  intro pins s σ H D b l I h
  refine wpAny_If (thk l ((hc b).run pins s σ H _ l I h) fun d s' l' ⟨H1, I1, q1⟩ => ?_)
  cases d with
  | true => exact ha.run pins s' σ H1 D b l' I1 q1
  | false => exact hb.run pins s' σ H1 D b l' I1 q1
def tRetB (t : TEB) : TSB := fun D b σ H => t b σ H D.rt
theorem psb_ret {t : TEB} (he : PEB X e t) : PSB X (.Return (some e) pos) (tRetB t) := by
  constructor
  intro pins s σ H D b l I h
  exact wpAny_Return_some (thn (he.run pins s σ H _ b l I h) fun w s1 ⟨b1, l1, x, H1, I1, r1, q1⟩ => ⟨b1, l1, x, σ, H1, I1, r1, q1⟩)
def tAsgB (t : TEB) (g : TG) : TSB := fun D b σ H => t b σ H fun b' x H1 => g x σ H1 (D.nx b')
theorem psb_asg {tg : Expr} {t : TEB} {g : TG} (he : PEB X e t) (hg : PG X tg g) (hs : swapsWithSole [tg] e pos.line X.env = pure false := by rfl) (hw : swappedStores [tg] e X.env = pure none := by rfl)
    (h1 : (assignEach [tg] X.env).map (·.2) = [assign tg X.env] := by rfl) : PSB X (.Assign [tg] e pos) (tAsgB t g) := by
  constructor
  intro pins s σ H D b l I h
  refine wpAny_Assign_stores (thn (he.run pins s σ H _ b l I h) fun v s1 ⟨b1, l1, x, H1, I1, r1, q1⟩ => ?_) hs hw
  rw [h1]
  exact thk l1 (hg.run pins s1 σ H1 x v _ I1 r1 q1) fun _ s2 l2 q => ⟨b1, l2, q⟩
theorem psb_set {i : Nat} {x : Str} {t : TEB} {pos' : Pos} (hN : X.N.Nodup) (hi : X.N[i]? = some x) (hx : Loc X.env.scope x) (he : PEB X e t) (hs : swapsWith e (some (.Name x pos')) pos.line X.env = pure false := by rfl) (hf : X.fn x = true ∨ X.env.scope.names.lookup x = some .local := by first | exact .inl rfl | exact .inr rfl | assumption) :
    PSB X (.Assign [.Name x pos'] e pos) (tAsgB t (gName i)) := by
  constructor
  intro pins s σ H D b l I h
  refine wpAny_Assign_Name (thn (he.run pins s σ H _ b l I h) fun v s1 ⟨b1, l1, y, H1, I1, r1, q1⟩ => ?_) hs
  exact thk l1 (store_ok (Q := fun _ s2 => SP X pins (D.to b1) .next s2) I1 hN hi hx r1 (fun s2 I2 => ⟨_, H1, I2, q1⟩) hf) fun _ s2 l2 q => ⟨b1, l2, q⟩
/-! #### a call of a def that tells a bound -/
def tCallU (sp : SpU) (ta : TA) : TEB := fun b σ H Q => ta σ H fun vs H1 => sp vs H1 fun b' v H2 => Q (max b b') v H2
theorem peb_callU {k : Nat} {x : Str} {f : Addr} {sp : SpU} {ta : TA} (F : FnU X.prog X.w X.K X.mg X.base k f sp) (hr : Room k X.A) (hg : Gl X x) (hm : X.mg x = some (.ref f)) (hk : PySem.W.keepIn X.K (.ref f) = true) (ha : PA X (e :: es) ta)
    (hdb : (x == ("__debug__" : Str)) = false := by decide) (he : starEach (e :: es) X.env = (false, eval e X.env) :: starEach es X.env := by rfl) (hpl : (backTo pos (starEach es X.env)).any (·.1) = false := by rfl) :
    PEB X (.Call (.Name x p) (e :: es) [] pos) (tCallU sp ta) := by
  constructor
  intro pins s σ H Q b l I h
  refine wpAny_Call_Name_kw (ld_glob I hg hm ?_ hdb)
  refine PySem.W.callWith_K (h₀ := X.base) I.ok.mod.kin hk (thk l (ha.run pos pins s σ H _ I h) ?_) he hpl
  rintro us s1 l1 ⟨vs, H1, I1, r, q⟩
  refine ⟨I1.kIn, wpAny_call (codeAny_mono (codeAny_toks_of l1 (F X.A X.stack s1 H1 us vs _ (fun _ _ _ => False) hr I1.env0 r q)) fun r s' hq => ?_)⟩
  obtain ⟨l2, b1, lb, hq⟩ := hq
  cases r with
  | error e => exact pass0 pins σ H1 s1 e s' I1 hq
  | ok fl =>
    cases fl with
    | ret w => exact ⟨max b b1, Nat.max_le.mpr ⟨l2, lb⟩, I1.after hq⟩
    | next => exact False.elim hq
    | brk => exact False.elim hq
    | cont => exact False.elim hq
end
end Pd

set_option maxHeartbeats 4000000
namespace Pd
open PySem PySem.Spec PyProof.Rows L2
/-! ### for, a comprehension, what is made of parts: what is known of tokens grows within -/
def tForB (wi : TI) (g : TG) (tb : TSB) : TSB := fun D b σ H => wi σ H fun J H1 => ∃ W : Nat → Nat → Nat → L2.St → Hp → Prop, (∃ m, W 0 m b σ H1) ∧ ∀ i m b σ H, W i m b σ H →
  (J.stop i H ∧ D.nx b σ H) ∨ (J.go i H ∧ ∃ N : Nat → L2.St → Hp → Prop, (∀ b' σ' H', N b' σ' H' → ∃ m', m' < m ∧ W (i + 1) m' b' σ' H') ∧ ∀ x H', J.yld i H x H' → g x σ H' fun σ2 H2 => tb { D with nx := N, ct := N, bk := D.nx } b σ2 H2)
theorem psb_for {X : Cx} {tg over : Expr} {sts : List Stmt} {wi : TI} {g : TG} {tb : TSB} {pos : Pos} (own : PassesOwn (model X.prog X.w) X.A X.env X.xe) (calm : X.calm = true) (hi : PI X tg over wi) (hg : PG X tg g) (hb : PSsB X sts tb)
    (fs : ∀ x, foldedSetIterable over X.env x = pure x := by intro _; rfl) : PSB X (.For tg over sts [] pos) (tForB wi g tb) := by
  constructor
  intro pins s σ H D b0 l0 I h
  refine wpAny_For (thk l0 (hi.run pins s σ H _ I h) fun v t1 m1 k1 => thk m1 k1 fun iv t2 m2 k2 => ?_) fs
  obtain ⟨it, fp, tn, J, H2, rfl, I2, T, at2, fr2, W, ⟨q0, w0⟩, turn⟩ := k2
  have same : ∀ {G : Hp}, (∀ b ∈ fp, G b = none) → ∀ b ∈ fp, FpOk X pins G b := fun z b hb => ⟨z b hb, (fr2 b hb).2⟩
  refine codeAny_forLoop_any (fun c u => ∃ b, b ≤ u.toks ∧ ∃ i ρ G, Inv X pins ρ G u ∧ tn i u.heap ∧ (∀ b ∈ fp, G b = none) ∧ W i c b ρ G) ?_ q0 ⟨b0, m2, 0, σ, H2, I2, at2, fun b hb => (fr2 b hb).1, w0⟩
  rintro c u3 ⟨b, l3, i, ρ, G3, J3, at3, fr3, w3⟩
  rcases turn i c b ρ G3 w3 with ⟨stop, fin⟩ | ⟨go, N, hN, step⟩
  · refine wpAny_passesOwn own (thk l3 (T.done X rfl rfl rfl calm i pins u3 ρ G3 X.xe J3 (same fr3) at3 stop) ?_)
    rintro r u4 l4 ⟨rfl, J4⟩
    exact wpAny_execs_nil ⟨b, l4, ρ, G3, J4, fin⟩
  refine wpAny_passesOwn own (thk l3 (T.item X rfl rfl rfl calm i pins u3 ρ G3 X.xe J3 (same fr3) at3 go) ?_)
  rintro r u4 l4 ⟨z, rfl, k4⟩
  refine wpAny_passesOwn own (thk l4 k4 ?_)
  rintro _ u5 l5 ⟨x, G5, J5, r5, y5, at5, fr5⟩
  have J6 := J5.pinned (same fr5) (T.obj _ _ at5)
  refine wpAny_passesOwn own (thk l5 (hg.run _ u5 ρ G5 x z _ J6 r5 (step x G5 y5)) ?_)
  rintro _ u6 l6 ⟨ρ6, G6, J7, q6⟩
  refine wpAny_passesOwn own (thn (hb.run _ u6 ρ6 G6 _ b l6 J7 q6) ?_)
  rintro f u7 ⟨b7, l7, q7⟩
  have more : ∀ {ρ7 : L2.St} {G7 : Hp}, Inv X (pins ++ pinsAt fp u5.heap) ρ7 G7 u7 → N b7 ρ7 G7 → ∃ m, m < c ∧ ∃ b, b ≤ u7.toks ∧ ∃ i ρ' G', Inv X pins ρ' G' u7 ∧ tn i u7.heap ∧ (∀ b ∈ fp, G' b = none) ∧ W i m b ρ' G' := by
    intro ρ7 G7 K7 n7
    obtain ⟨m', lt, w7⟩ := hN b7 ρ7 G7 n7
    have pin : ∀ b ∈ fp, ∀ o, u5.heap.get? b = some o → _ := fun b hb o e => K7.pin (b, o) (List.mem_append_right _ (List.mem_append_right _ (mem_pinsAt hb e)))
    refine ⟨m', lt, b7, l7, i + 1, ρ7, G7, K7.unpinned, T.keep _ _ _ at5 fun b hb o e => (pin b hb o e).1, fun b hb => ?_, w7⟩
    obtain ⟨o, e, _⟩ := T.obj _ _ at5 b hb
    exact (pin b hb o e).2.1
  cases f with
  | next => obtain ⟨ρ7, G7, K7, n7⟩ := q7; exact more K7 n7
  | cont => obtain ⟨ρ7, G7, K7, n7⟩ := q7; exact more K7 n7
  | brk => obtain ⟨ρ7, G7, K7, e7⟩ := q7; exact ⟨b7, l7, ρ7, G7, K7.unpinned, e7⟩
  | ret v => obtain ⟨x7, ρ7, G7, K7, r7, e7⟩ := q7; exact ⟨b7, l7, x7, ρ7, G7, K7.unpinned, r7, e7⟩
theorem forB_it {J : It} {n : Nat} {G : Hp → Prop} {Y : Nat → Hp → V → Hp → Prop} (w : Walk J n G Y) {g : TG} {tb : TSB} {D : EndsB} {b : Nat} {σ : L2.St} {H : Hp} (Pv : Nat → Nat → L2.St → Hp → Prop) (h0 : Pv 0 b σ H) (hG : ∀ i b σ H, i ≤ n → Pv i b σ H → G H)
    (hs : ∀ i x b σ H H', i < n → Pv i b σ H → Y i H x H' → g x σ H' fun σ2 H2 => tb { D with nx := Pv (i + 1), ct := Pv (i + 1), bk := D.nx } b σ2 H2) (hd : ∀ b σ H, Pv n b σ H → D.nx b σ H) :
    ∃ W : Nat → Nat → Nat → L2.St → Hp → Prop, (∃ m, W 0 m b σ H) ∧ ∀ i m b σ H, W i m b σ H →
      (J.stop i H ∧ D.nx b σ H) ∨ (J.go i H ∧ ∃ N : Nat → L2.St → Hp → Prop, (∀ b' σ' H', N b' σ' H' → ∃ m', m' < m ∧ W (i + 1) m' b' σ' H') ∧ ∀ x H', J.yld i H x H' → g x σ H' fun σ2 H2 => tb { D with nx := N, ct := N, bk := D.nx } b σ2 H2) := by
  refine ⟨fun i m b σ H => m = n - i ∧ i ≤ n ∧ Pv i b σ H, ⟨n, by simp, Nat.zero_le _, h0⟩, ?_⟩
  rintro i m b σ H ⟨rfl, hi, p⟩
  have q := hG i b σ H hi p
  by_cases hlt : i < n
  · exact .inr ⟨w.goes i H hlt q, Pv (i + 1), fun b' σ' H' p' => ⟨n - (i + 1), by omega, rfl, hlt, p'⟩, fun x H' y => hs i x b σ H H' hlt p (w.yields i H x H' hlt q y)⟩
  · have e : i = n := by omega
    subst e
    exact .inl ⟨w.stops H q, hd b σ H p⟩
def tLcB (wi : TI) (g : TG) (tt : TT) (te : TEB) (vs : List Nat) : TEB := fun b σ H Q => wi σ H fun J H1 => ∀ D, H1 D = none → ∃ W : Nat → Nat → Nat → Hp → Prop, (∃ m, W 0 m b (upd H1 D (.lst []))) ∧ ∀ i m b H, W i m b H →
  (J.stop i H ∧ Q b (.ref D) H) ∨ (J.go i H ∧ ∃ Nx : Nat → Hp → Prop, (∀ b' H', Nx b' H' → ∃ m', m' < m ∧ W (i + 1) m' b' H') ∧ ∀ x H', J.yld i H x H' → g x (wipe σ vs) H' fun σ2 H2 => wipe σ2 vs = wipe σ vs ∧ tt σ2 H2 fun d H3 =>
    if d = true then te b σ2 H3 fun b' y H4 => ∃ acc, H4 D = some (.lst acc) ∧ acc.length < sizeLine ∧ Nx b' (upd H4 D (.lst (acc ++ [y]))) else Nx b H3)
theorem lcB_it {J : It} {n : Nat} {G : Hp → Prop} {Y : Nat → Hp → V → Hp → Prop} (w : Walk J n G Y) {g : TG} {tt : TT} {te : TEB} {vs : List Nat} {σ : L2.St} {H1 : Hp} {D : Addr} {b : Nat} {Qd : Nat → Hp → Prop} (Pv : Nat → Nat → Hp → Prop) (h0 : Pv 0 b (upd H1 D (.lst []))) (hG : ∀ i b H, i ≤ n → Pv i b H → G H)
    (hs : ∀ i x b H H', i < n → Pv i b H → Y i H x H' → g x (wipe σ vs) H' fun σ2 H2 => wipe σ2 vs = wipe σ vs ∧ tt σ2 H2 fun d H3 =>
      if d = true then te b σ2 H3 fun b' y H4 => ∃ acc, H4 D = some (.lst acc) ∧ acc.length < sizeLine ∧ Pv (i + 1) b' (upd H4 D (.lst (acc ++ [y]))) else Pv (i + 1) b H3) (hd : ∀ b H, Pv n b H → Qd b H) :
    ∃ W : Nat → Nat → Nat → Hp → Prop, (∃ m, W 0 m b (upd H1 D (.lst []))) ∧ ∀ i m b H, W i m b H →
      (J.stop i H ∧ Qd b H) ∨ (J.go i H ∧ ∃ Nx : Nat → Hp → Prop, (∀ b' H', Nx b' H' → ∃ m', m' < m ∧ W (i + 1) m' b' H') ∧ ∀ x H', J.yld i H x H' → g x (wipe σ vs) H' fun σ2 H2 => wipe σ2 vs = wipe σ vs ∧ tt σ2 H2 fun d H3 =>
        if d = true then te b σ2 H3 fun b' y H4 => ∃ acc, H4 D = some (.lst acc) ∧ acc.length < sizeLine ∧ Nx b' (upd H4 D (.lst (acc ++ [y]))) else Nx b H3) := by
  refine ⟨fun i m b H => m = n - i ∧ i ≤ n ∧ Pv i b H, ⟨n, by simp, Nat.zero_le _, h0⟩, ?_⟩
  rintro i m b H ⟨rfl, hi, p⟩
  have q := hG i b H hi p
  by_cases hlt : i < n
  · refine .inr ⟨w.goes i H hlt q, Pv (i + 1), fun b' H' p' => ⟨n - (i + 1), by omega, rfl, hlt, p'⟩, fun x H' y => hs i x b H H' hlt p (w.yields i H x H' hlt q y)⟩
  · have e : i = n := by omega
    subst e
    exact .inl ⟨w.stops H q, hd b H p⟩
set_option maxHeartbeats 4000000 in
theorem peb_lc {X : Cx} {elt tg iter : Expr} {ifs : List Expr} {scope : Scope} {own : List (Str × Nat)} {pos : Pos} {wi : TI} {g : TG} {tt : TT} {te : TEB} (hc : X.calm = true) (hN : X.N.Nodup) (hi : PI X tg iter wi) (ok : BlkOk X.N X.env.scope scope own)
    (hg : ∀ (s : Shared) (H : Hp) (C : Addr) (cl : List (Str × Addr)) (fp : List Addr), PG (X.blk s H scope (compEnvC scope cl C X.env) fp) tg g)
    (ht : ∀ (s : Shared) (H : Hp) (C : Addr) (cl : List (Str × Addr)) (fp : List Addr), PTs (X.blk s H scope (compEnvC scope cl C X.env) fp) ifs tt)
    (he : ∀ (s : Shared) (H : Hp) (C : Addr) (cl : List (Str × Addr)) (fp : List Addr), PEB (X.blk s H scope (compEnvC scope cl C X.env) fp) elt te) (hs : ∀ x, foldedSetIterable iter X.env x = pure x := by intro _; rfl) :
    PEB X (.ListComp elt [⟨tg, iter, ifs, 0⟩] scope pos) (tLcB wi g tt te (own.map (·.2))) := by
  constructor
  intro pins s σ H Q b0 l0 I h
  rw [eval_ListComp]
  have hf : ∀ y ∈ scope.names, y.2 = .free → ∃ c, X.env.cells.lookup y.1 = some c := by
    intro y hy e
    rcases ok.free y hy e with k | k
    · exact I.ok.has _ (.inl k)
    · exact I.ok.has _ (.inr k)
  refine wpAny_comprehension_free (use := none) rfl hs (closure_ok hf) ok.kind (fun y hy e => by rw [ok.uniq y hy, e]) (thk l0 (hi.run pins s σ H _ I h) ?_)
  intro xv s1 l1 hx
  refine thk l1 hx ?_
  rintro itv s2 l2 ⟨it, fp, tn, J, H2, rfl, I2, T, st2, f2, q⟩
  refine wpAny_newObj_type (newEnv_comp ?_) (by show 0 ≤ sizeLine; decide)
  generalize hD : s2.heap.objs.size = D
  have dn : H2 D = none := I2.hok.fresh (Nat.le_of_eq hD)
  obtain ⟨W, ⟨m0, w0⟩, turn⟩ := q D dn
  generalize hs3 : ({ s2 with heap := s2.heap.push { cls := .type "list", data := .seq ([] : List Value).toArray } } : Shared) = s3
  have t3 : s3.toks = s2.toks := by rw [← hs3]
  have h3 : s3.heap = s2.heap.push { cls := .type "list", data := .seq ([] : List Value).toArray } := by rw [← hs3]
  have I3 : Inv X pins σ (upd H2 D (.lst [])) s3 := by
    rw [← hs3]
    refine I2.laid (t' := s2.toks) (fun b o e => Heap.get?_push_of_some _ e) (Nat.le_of_eq hD) ⟨Nat.zero_le _, [], 0, .nil, ?_⟩
    rw [← hD]
    exact Heap.get?_push_size _ rfl
  have sz : ∀ b ∈ fp, b < s2.heap.objs.size := by
    intro b hb
    obtain ⟨o, e, _⟩ := T.obj _ _ st2 b hb
    exact Heap.lt_size e
  have f3 : ∀ b ∈ fp, FpOk X pins (upd H2 D (.lst [])) b ∧ b < s3.heap.objs.size := by
    intro b hb
    have z := sz b hb
    refine ⟨⟨?_, (f2 b hb).2⟩, by rw [h3, Heap.size_push]; exact Nat.lt_succ_of_lt z⟩
    rw [upd_ne (by rw [← hD]; exact Nat.ne_of_lt z)]
    exact (f2 b hb).1
  have st3 : tn 0 s3.heap := T.keep _ _ _ st2 fun b _ o e => by rw [h3]; exact Heap.get?_push_of_some _ e
  have I4 := block_start I3 ok hN f3
  have pg := hg s3 (upd H2 D (.lst [])) s3.heap.objs.size (cellsFrom (s3.heap.objs.size + 1) scope.names (cloFrom X.env.cells scope.names [])) fp
  have pt := ht s3 (upd H2 D (.lst [])) s3.heap.objs.size (cellsFrom (s3.heap.objs.size + 1) scope.names (cloFrom X.env.cells scope.names [])) fp
  have pe := he s3 (upd H2 D (.lst [])) s3.heap.objs.size (cellsFrom (s3.heap.objs.size + 1) scope.names (cloFrom X.env.cells scope.names [])) fp
  have nfp : ∀ b ∈ fp, (upd H2 D (.lst [])) b = none := fun b hb => (f3 b hb).1.1
  show codeAny _ _ (.compStart (.ListComp elt [⟨tg, iter, ifs, 0⟩] scope pos) 0 (.ref it) (.ref D) (compEnvC scope (cellsFrom (s3.heap.objs.size + 1) scope.names (cloFrom X.env.cells scope.names [])) s3.heap.objs.size X.env))
    (compPost (model X.prog X.w) X.A X.xe none (fun u s' => ∃ b', b' ≤ s'.toks ∧ EP X pins σ (Q b') u s') (.ref D) s3.heap.objs.size) { s3 with heap := pushCells (s3.heap.push { cls := .type "dict", data := .dict #[] }) scope.names }
  generalize hce : compEnvC scope (cellsFrom (s3.heap.objs.size + 1) scope.names (cloFrom X.env.cells scope.names [])) s3.heap.objs.size X.env = ce at I4 pg pt pe ⊢
  have cL : ce.locals = s3.heap.objs.size := by subst hce; rfl
  generalize hH3 : upd H2 D (.lst []) = H3 at I3 I4 pg pt pe w0 nfp f3
  generalize hs4 : ({ s3 with heap := pushCells (s3.heap.push { cls := .type "dict", data := .dict #[] }) scope.names } : Shared) = s4 at I4 ⊢
  have l4 : b0 ≤ s4.toks := by rw [← hs4]; show b0 ≤ s3.toks; rw [t3]; exact l2
  have st4 : tn 0 s4.heap := T.keep _ _ _ st3 fun b _ o e => by rw [← hs4]; exact pushCells_keeps _ _ _ _ (Heap.get?_push_of_some _ e)
  have stat : ∀ {σ' : L2.St} {H' : Hp} {s' : Shared}, Inv (X.blk s3 H3 scope ce fp) [] σ' H' s' → (∀ b ∈ fp, H' b = none) → ∀ b ∈ fp, FpOk (X.blk s3 H3 scope ce fp) [] H' b := fun {σ' H' s'} I' hn b hb =>
    ⟨hn b hb, (I'.ok.exf b hb).1, I'.ok.exfs b hb, .inl hb, fun x c e => (I'.ok.exf b hb).2 x c e, fun p hp => absurd (show p ∈ ([] : List (Addr × Obj)) ++ [] from hp) (by simp)⟩
  have loop : codeAny (model X.prog X.w) X.A (.compLoop (.ListComp elt [⟨tg, iter, ifs, 0⟩] scope pos) 0 (.ref it) (.ref D) ce) (compPost (model X.prog X.w) X.A X.xe none (fun u s' => ∃ b', b' ≤ s'.toks ∧ EP X pins σ (Q b') u s') (.ref D) s3.heap.objs.size) s4 := by
    refine compLoop_any (fun m s' => ∃ b, b ≤ s'.toks ∧ ∃ i H', Inv (X.blk s3 H3 scope ce fp) [] (wipe σ (own.map (·.2))) H' s' ∧ tn i s'.heap ∧ (∀ b ∈ fp, H' b = none) ∧ W i m b H') ?_ m0 ⟨b0, l4, 0, H3, I4, st4, nfp, w0⟩
    rintro m s5 ⟨b5, l5, i, H5, I5, st5, n5, w5⟩
    rcases turn i m b5 H5 w5 with ⟨stop, qq⟩ | ⟨go, Nx, hNx, step⟩
    · refine thnF (tkE l5 (T.done (X.blk s3 H3 scope ce fp) rfl rfl rfl hc i [] s5 _ H5 (fun _ _ => False) I5 (stat I5 n5) st5 stop)) ?_
      rintro r s6 ⟨l6, rfl, I6⟩
      have I7 : Inv X pins σ H5 s6 := I3.call' (ch := fp) I6.os I6.base I6.hok I6.bare fun b hb => ⟨(f3 b hb).1.2.2.2.1, (f3 b hb).1.2.1, (f3 b hb).1.2.2.2.2.1, (f3 b hb).1.2.2.2.2.2⟩
      have nC : H5 s3.heap.objs.size = none := by
        have z : H5 ce.locals = none := I6.free
        rw [cL] at z
        exact z
      obtain ⟨mm, hn, _⟩ := I6.loc
      have hn : s6.heap.Ns ce.locals mm := hn
      rw [cL] at hn
      obtain ⟨g0, g1, g2, g3, g4, g5⟩ := I3.fpOk (H' := H5) (Nat.le_refl _) nC
      exact ⟨mm, hn, fun g sb => ⟨b5, l6, .ref D, H5, I7.turned (t' := s6.toks) (fun b o hb e => (sb.2 b hb).trans e) g0 g1 g3 g4 g5, rfl, qq⟩⟩
    · refine thnF (tkE l5 (T.item (X.blk s3 H3 scope ce fp) rfl rfl rfl hc i [] s5 _ H5 (fun _ _ => False) I5 (stat I5 n5) st5 go)) ?_
      rintro r s6 ⟨l6, u, rfl, h6⟩
      refine thnF (tkE l6 h6) ?_
      rintro _ s7 ⟨l7, x, H7, I7, r7, y7, st7, n7⟩
      have I7' := I7.pinned (stat I7 n7) (T.obj _ _ st7)
      refine thnF (tkE l7 (pg.run _ s7 _ H7 x u _ I7' r7 (step x H7 y7))) ?_
      rintro _ s8 ⟨l8, σ8, H8, I8, hw8, q8⟩
      refine thnF (tkE l8 (pt.run _ s8 σ8 H8 _ I8 q8)) ?_
      rintro b s9 ⟨l9, H9, I9, q9⟩
      have fin : ∀ {b' : Nat} {s' : Shared} {H' : Hp}, b' ≤ s'.toks → Inv (X.blk s3 H3 scope ce fp) ([] ++ pinsAt fp s7.heap) σ8 H' s' → Nx b' H' →
          ∃ m', m' < m ∧ ∃ b, b ≤ s'.toks ∧ ∃ i H', Inv (X.blk s3 H3 scope ce fp) [] (wipe σ (own.map (·.2))) H' s' ∧ tn i s'.heap ∧ (∀ b ∈ fp, H' b = none) ∧ W i m' b H' := by
        intro b' s' H' ls I' nx
        obtain ⟨m', hm, w'⟩ := hNx b' H' nx
        have pin' : ∀ b ∈ fp, ∀ o, s7.heap.get? b = some o → s'.heap.get? b = some o ∧ H' b = none := fun b hb o e =>
          let z := I'.pin (b, o) (List.mem_append_right _ (List.mem_append_right _ (mem_pinsAt hb e)))
          ⟨z.1, z.2.1⟩
        have hl : (wipe σ (own.map (·.2))).length = σ8.length := by rw [← hw8, wipe_length]
        refine ⟨m', hm, b', ls, i + 1, H', (I'.unpinned (pins := [])).weak hl (fun j v e => ?_), T.keep _ _ _ st7 fun b hb o e => (pin' b hb o e).1, fun b hb => ?_, w'⟩
        · rw [← hw8] at e
          exact (wipe_some e).1
        · obtain ⟨o, e, _⟩ := T.obj _ _ st7 b hb
          exact (pin' b hb o e).2
      cases b with
      | false =>
        simp only [Bool.false_eq_true, if_false] at q9 ⊢
        exact fin l9 I9 q9
      | true =>
        simp only [if_true] at q9 ⊢
        refine thnF (pe.run _ s9 σ8 H9 _ b5 l9 I9 q9) ?_
        rintro z s10 ⟨b10, l10, yv, H10, I10, r10, acc, hD10, hz10, nx⟩
        refine thnF (tkE l10 (app_ok (X := X.blk s3 H3 scope ce fp) (Q := fun _ s' => Inv (X.blk s3 H3 scope ce fp) ([] ++ pinsAt fp s7.heap) σ8 (upd H10 D (.lst (acc ++ [yv]))) s') I10 hD10 hz10 r10 fun s11 I11 => I11)) ?_
        rintro _ s11 ⟨l11, I11⟩
        exact fin l11 I11 nx
  exact codeAny_compStart_list loop (T.self X.A 0 _ _ _ st4 loop)
/-! #### parts -/
section
variable {X : Cx} {e a b c : Expr} {es : List Expr} {pos p : Pos}
def tConsB (t : TEB) (u : TAB) : TAB := fun n σ H Q => t n σ H fun n1 x H1 => u n1 σ H1 fun n2 xs H2 => Q n2 (x :: xs) H2
theorem pab_cons {t : TEB} {u : TAB} (ha : PEB X e t) (hr : PAB X es u) (hs : starEach (e :: es) X.env = (false, eval e X.env) :: starEach es X.env := by rfl) : PAB X (e :: es) (tConsB t u) := by
  constructor
  intro pos pins s σ H Q n l I h
  rw [hs]
  show wpAny _ _ (spliced ((false, eval e X.env) :: backTo pos (starEach es X.env))) _ _ s
  refine Calls.spliced_cons (thn (ha.run pins s σ H _ n l I h) fun w s1 ⟨n1, l1, x, H1, I1, r1, q1⟩ => ?_)
  exact thn (hr.run pos pins s1 σ H1 _ n1 l1 I1 q1) fun us s2 ⟨n2, l2, xs, H2, I2, r2, q2⟩ => ⟨n2, l2, x :: xs, H2, I2, .cons r1 r2, q2⟩
theorem pab_nil : PAB X [] (bA fun _ => tNil) := pab fun _ => pan pa_nil
def tTupB (t : TAB) : TEB := fun n σ H Q => t n σ H fun n1 xs H1 => xs.length ≤ sizeLine ∧ ∀ p, H1 p = none → Q n1 (.ref p) (upd H1 p (.tup xs))
theorem peb_tup {t : TAB} {x1} (h : PAB X es t) : PEB X (.Tuple es x1 pos) (tTupB t) := by
  refine ⟨fun pins s σ H Q n l I hq => ?_⟩
  refine wpAny_Tuple_spliced (thn (h.run pos pins s σ H _ n l I hq) fun us s1 ⟨n1, l1, xs, H1, I1, r, z, q⟩ => ⟨by rw [← r.length]; exact z, ?_⟩)
  have hf : H1 s1.heap.objs.size = none := I1.hok.fresh (Nat.le_refl _)
  refine ⟨n1, l1, .ref s1.heap.objs.size, upd H1 s1.heap.objs.size (.tup xs), I1.laid (t' := s1.toks) (fun b u e => Heap.get?_push_of_some _ e) (Nat.le_refl _) ?_, rfl, q _ hf⟩
  exact ⟨z, us, r, ⟨_, Heap.get?_push_size _ rfl, rfl, _, rfl⟩⟩
def tOpB (r : R2) (t u : TEB) : TEB := fun n σ H Q => t n σ H fun n1 x H1 => u n1 σ H1 fun n2 y H2 => r x y H2 (Q n2)
theorem peb_op {op : Operator} {r : R2} {t u : TEB} (ho : OpR X (binaryOp op) r) (ha : PEB X a t) (hb : PEB X b u) : PEB X (.BinOp a op b pos) (tOpB r t u) := by
  constructor
  intro pins s σ H Q n l I h
  refine wpAny_BinOp (thn (ha.run pins s σ H _ n l I h) fun w s1 ⟨n1, l1, x, H1, I1, r1, q1⟩ => ?_)
  refine thn (hb.run pins s1 σ H1 _ n1 l1 I1 q1) fun w2 s2 ⟨n2, l2, y, H2, I2, r2, q2⟩ => thk l2 (ho pins s2 σ H2 x y w w2 (Q n2) I2 r1 r2 q2) fun _ _ l3 z => ⟨n2, l3, z⟩
def tCBB (r : List V → Hp → VK → Prop) (t : TAB) : TEB := fun n σ H Q => t n σ H fun n1 vs H1 => r vs H1 (Q n1)
theorem peb_callTy {T : String} {x : Str} {r : List V → Hp → VK → Prop} {t : TAB} (hc : CallR X (.type T) r) (hg : Gl X x) (hm : X.mg x = none) (hv : bootBuiltins x = some (.type T)) (ha : PAB X (e :: es) t) (hn : x ≠ "__name__" := by decide) (hdb : (x == ("__debug__" : Str)) = false := by decide)
    (he : starEach (e :: es) X.env = (false, eval e X.env) :: starEach es X.env := by rfl) (hpl : (backTo pos (starEach es X.env)).any (·.1) = false := by rfl) : PEB X (.Call (.Name x p) (e :: es) [] pos) (tCBB r t) := by
  refine ⟨fun pins s σ H Q n l I h => ?_⟩
  refine wpAny_Call_Name_kw (ld_blt I hg hm hv ?_ hn hdb)
  exact PyProof.Rows.callWith_type1 (thn (ha.run pos pins s σ H _ n l I h) fun us s1 ⟨n1, l1, vs, H1, I1, r1, q1⟩ => thk l1 (hc pins s1 σ H1 vs us (Q n1) I1 r1 q1) fun _ _ l2 z => ⟨n1, l2, z⟩) he hpl
/-- two names at once -/
def tParB (i j : Nat) (ta : TAB) : TSB := fun D n σ H => ta n σ H fun n1 vs H1 => ∃ v w, vs = [v, w] ∧ D.nx n1 ((σ.set i (some v)).set j (some w)) H1
theorem psb_par {i j : Nat} {kx ky : Str} {e1 e2 : Expr} {tl : TAB} {b1 b2 b3 b4 b5 : Pos} {k1 k2 : Nat} (calm : X.calm = true) (nd : X.N.Nodup) (hi : X.N[i]? = some kx) (hj : X.N[j]? = some ky) (ne : i ≠ j)
    (vx : X.env.scope.names.lookup kx = some .local) (vy : X.env.scope.names.lookup ky = some .local) (ha : PAB X [e1, e2] tl)
    (sw : swappedStores [.Tuple [.Name kx b1, .Name ky b2] k1 b3] (.Tuple [e1, e2] k2 b4) X.env = pure (some [kx, ky]))
    (sole : swapsWithSole [.Tuple [.Name kx b1, .Name ky b2] k1 b3] (.Tuple [e1, e2] k2 b4) b5.line X.env = pure false := by rfl) :
    PSB X (.Assign [.Tuple [.Name kx b1, .Name ky b2] k1 b3] (.Tuple [e1, e2] k2 b4) b5) (tParB i j tl) := by
  constructor
  intro pins s σ H D n l0 I h
  rw [exec_Assign_arm]
  refine wpAny_bind (wpAny_standAt ?_)
  rw [sole]
  refine wpAny_bind (wpAny_pure ?_)
  rw [if_neg (by decide)]
  refine wpAny_bind (Tuple_ (thn (ha.run _ pins s σ H _ n l0 I h) ?_))
  rintro us t1 ⟨n1, l1, vs, H1, J1, rs, v, z, rfl, fin⟩
  have two : ∃ c d, us = [c, d] ∧ RelV v c ∧ RelV z d := by
    rcases rs with _ | ⟨rv, rs⟩
    rcases rs with _ | ⟨rz, rs⟩
    cases rs
    exact ⟨_, _, rfl, rv, rz⟩
  obtain ⟨c, d, rfl, rv, rz⟩ := two
  refine wpAny_newObj_type ?_ (by show 2 ≤ sizeLine; decide)
  have J2 : Inv X pins σ H1 { t1 with heap := t1.heap.push { cls := .type "tuple", data := .seq [c, d].toArray } } := J1.kept (t' := t1.toks) fun b o q => Heap.get?_push_of_some _ q
  rw [sw]
  refine wpAny_bind (wpAny_pure ?_)
  show wpAny (model X.prog X.w) X.A (do rule "assign.swapped-stores"; let items ← unpackItems (.ref t1.heap.objs.size) 2 none; assignInOrder [fun v => bindName X.env ky v, fun v => bindName X.env kx v] items.reverse; pure Flow.next) _ _ _
  refine wpAny_bind (wpAny_rule (wpAny_bind (unpackItems_tuple (items := #[c, d]) (I.ok.hd calm) (IsTup.new t1.heap _) fun g hg => ?_)))
  have J3 := J2.kept (h' := g) (t' := t1.toks) fun b o q => hg b o (Nat.ne_of_lt (Heap.lt_size q)) q
  show wpAny _ _ (assignInOrder [fun v => bindName X.env ky v, fun v => bindName X.env kx v] [d, c] >>= fun _ => pure Flow.next) _ _ _
  refine wpAny_bind (assignInOrder_cons (wpAny_bindName ?_))
  refine thk (s := { t1 with heap := g }) l1 (store_ok (Q := fun _ s2 => Inv X pins (σ.set j (some z)) H1 s2) J3 nd hj (.inl vy) rz (fun t2 J4 => J4) (.inr vy)) fun _ t2 l2 J4 => ?_
  refine assignInOrder_cons (wpAny_bindName ?_)
  refine thk l2 (store_ok (Q := fun _ s2 => Inv X pins ((σ.set j (some z)).set i (some v)) H1 s2) J4 nd hi (.inl vx) rv (fun t2 J4 => J4) (.inr vx)) fun _ t3 l3 J5 => assignInOrder_nil (wpAny_pure ?_)
  rw [List.set_comm _ _ (Ne.symm ne)] at J5
  exact ⟨n1, l3, _, H1, J5, fin⟩
end
/-! #### defs -/
theorem fnU_ofB {P : Program} {w : World} {K : PySem.W.Frag} {mg : Str → Option Value} {base : Heap} {x qual : Str} {st : Stmt} {f : Addr} {fd : FuncData} {N ps : List Str} {k : Nat} {sp : SpU}
    (F : Fun K x qual st f fd) (S : FnScope N ps (defScope st))
    (hb : ∀ (kV doc pm : Value) (an : Option Addr) (cdv ct : Value) (us : List Value), us.length = ps.length → bindArgs (PySem.W.fnOf x qual (defArgs st) (defBody st) (defScope st) .none kV doc pm an cdv ct) ⟨us, []⟩ = pure (ps.zip us))
    (len : ∀ vs H Q, sp vs H Q → vs.length = ps.length)
    (hbody : ∀ (cdv : Value) (A : Around) (outer : List Env) (s : Shared) (H : Hp) (vs : List V) (Q : Nat → VK) (E : XK), Room k (A.deeper (envOfC qual (defScope st) s.heap.objs.size f cdv)) → sp vs H Q →
      ∃ t, PSsB (cxOf CX0 P w K mg base N qual (defScope st) f cdv A outer s H E) (defBody st) t ∧ t { nx := fun b _ H' => Q b .non H', rt := Q } 0 (start N vs) H) : FnU P w K mg base (k + 1) f sp := by
  obtain ⟨oc, od, kV, doc, pm, an, cdv, ct, osl, rfl, lk, hcd⟩ := F.ex
  intro A outer s H us vs Q E hr e0 r hsp
  have hl : us.length = ps.length := r.length.symm.trans (len _ _ _ hsp)
  have KX : K.In s.heap := e0.mod.kin.keeps fun b o e => (e0.bs b o e).1
  have lim : s.heap.NoLimit := e0.mod.nolimit.keeps fun b o e => (e0.bs b o e).1
  have hkind : ∀ y ∈ ps.zip us, (defScope st).names.lookup y.1 = some .local ∨ ((defScope st).names.lookup y.1 = some .cell ∧ ((cellsFrom (s.heap.objs.size + 1) (defScope st).names []).lookup y.1).isSome = true) := fun y hy => by
    rcases S.par y.1 (List.of_mem_zip hy).1 with q | q
    · exact .inl q
    · exact .inr ⟨q, PySem.W.cellsFrom_some _ _ _ (.inl q)⟩
  refine codeAny_call_function hr.depth (KX _ _ lk) rfl S.co S.gen rfl (PySem.W.codeRec_of KX hcd) (BindsTo.of_eq (hb kV doc pm an cdv ct us hl) _ _ _ _ ?_)
  refine wpAny_mono (wpAny_newFunctionEnv_cells S.kind hkind fun env he s1 x => (⟨he, x⟩ : env = _ ∧ InCallC s _ _ _ _ s1)) ?_ fun _ _ z => z
  rintro env s1 ⟨rfl, x⟩
  refine ⟨lim.keeps x.toInCall.keep, codeAny_func ?_⟩
  obtain ⟨t, he, hq⟩ := hbody cdv A outer s H vs Q E (hr.deeper _) hsp
  have I : Inv (cxOf CX0 P w K mg base N qual (defScope st) f cdv A outer s H E) [] (start N vs) H s1 := inv_start S hr.hd e0 (len _ _ _ hsp) r x
  refine wpAny_mono (he.run [] s1 _ H _ 0 (Nat.zero_le _) I hq) ?_ ?_
  · rintro fl s' ⟨b, lb, hs⟩
    refine ⟨b, lb, ?_⟩
    cases fl with
    | ret u =>
      obtain ⟨v, σ', H', J, rv, q⟩ := hs
      exact (show CE outer P w H s (Q b) u s' from ⟨v, H', J.os, J.bare, J.base, J.hok, rv, q⟩)
    | next =>
      obtain ⟨σ', H', J, q⟩ := hs
      exact (show CE outer P w H s (Q b) .none s' from ⟨.non, H', J.os, J.bare, J.base, J.hok, rfl, q⟩)
    | brk =>
      obtain ⟨_, _, _, q⟩ := hs
      exact False.elim q
    | cont =>
      obtain ⟨_, _, _, q⟩ := hs
      exact False.elim q
  · intro e s' h
    exact wpAny_mono h (fun _ _ h => ⟨0, Nat.zero_le _, h⟩) fun _ _ h => ⟨0, Nat.zero_le _, h⟩
theorem PSsB.nox {X : Cx} {sts : List Stmt} {t : TSB} (h : PSsB X.nox sts t) : PSsB X sts t :=
  ⟨fun pins s σ H D b l I q => wpAny_mono (h.run pins s σ H D b l (I.wish _) q) (fun _ _ ⟨b', l', z⟩ => ⟨b', l', z.unwish⟩) fun _ _ z => z.elim⟩
end Pd

set_option maxHeartbeats 4000000
namespace Pd
open PySem PySem.Spec PyProof.Rows L2
/-! ### while, n tokens out -/
theorem psn_while {n : Nat} {X : Cx} {c : Expr} {body : List Stmt} {tc : TT} {tb : TS} {pos : Pos} (hp : PassesOwn (model X.prog X.w) X.A X.env X.xe) (hc : PTn n X c tc) (hb : PSsn n X body tb) : PSn n X (.While c body [] pos) (tWhile tc tb) := by
  refine ⟨fun pins s σ H D l0 I h => ?_⟩
  obtain ⟨W, ⟨m0, w0⟩, turn⟩ := h
  refine wpAny_While (codeAny_whileLoop (fun k s' => n ≤ s'.toks ∧ ∃ σ' H', Inv X pins σ' H' s' ∧ W k σ' H') ?_ m0 ⟨l0, σ, H, I, w0⟩)
  rintro k s1 ⟨l1, σ1, H1, I1, w1⟩
  refine wpAny_passesOwn hp (thk l1 (hc.run pins s1 σ1 H1 _ l1 I1 (turn k σ1 H1 w1)) fun b s2 l2 ⟨H2, I2, q2⟩ => ?_)
  cases b with
  | true =>
    obtain ⟨N, hN, q2⟩ := q2
    rw [if_pos rfl]
    refine wpAny_passesOwn hp (thk l2 (hb.run pins s2 σ1 H2 _ l2 I2 q2) fun f s3 l3 q3 => ?_)
    cases f with
    | next =>
      obtain ⟨σ3, H3, I3, n3⟩ := q3
      obtain ⟨m', hm, w3⟩ := hN σ3 H3 n3
      exact ⟨m', hm, l3, σ3, H3, I3, w3⟩
    | cont =>
      obtain ⟨σ3, H3, I3, n3⟩ := q3
      obtain ⟨m', hm, w3⟩ := hN σ3 H3 n3
      exact ⟨m', hm, l3, σ3, H3, I3, w3⟩
    | brk => exact q3
    | ret v => exact q3
  | false =>
    rw [if_neg Bool.false_ne_true]
    exact wpAny_execs_nil ⟨σ1, H2, I2, q2⟩
end Pd

set_option maxHeartbeats 4000000
namespace Pd
open PySem PySem.Spec PyProof.Rows L2 SX
/-! ### line.replace(step[1] * 2, step[1]), step = ('once', a), a's token below n -/
def tReplM (to : TE) (i n : Nat) : TE := fun σ H Q => to σ H fun v H1 => ∃ x p a, v = .str x ∧ σ[i]? = some (some (.ref p)) ∧ OnceB n H1 p a ∧ a.length = 1 ∧ x.length ≤ 1000 ∧ Q (.str (Txt.replace x (a ++ a) a)) H1
theorem pen_replM {n : Nat} {X : Cx} {i : Nat} {kx : Str} {o : Expr} {to : TE} {j0 j1 j2 : Nat} {p2 p4 c0 c1 c2 q0 q2 q3 apos pos : Pos} (nb : PySem.W.nsIn X.K cStatics sharingNotToldKey = some none) (ho : PEn n X o to) (hN : X.N[i]? = some kx) (hv : Vis X.env.scope kx) (hd : (kx == ("__debug__" : Str)) = false := by decide)
    (hcd : (kx == ("__classdict__" : Str)) = false := by decide)
    (hst : starEach [.BinOp (.Subscript (.Name kx p2) (.Constant (.int 1) j0 c0) q0) .Mult (.Constant (.int 2) j1 c1) q2, .Subscript (.Name kx p4) (.Constant (.int 1) j2 c2) q3] X.env =
      [(false, eval (.BinOp (.Subscript (.Name kx p2) (.Constant (.int 1) j0 c0) q0) .Mult (.Constant (.int 2) j1 c1) q2) X.env), (false, eval (.Subscript (.Name kx p4) (.Constant (.int 1) j2 c2) q3) X.env)] := by rfl)
    (hbs : attributeBase o "replace" X.env (eval o X.env) = eval o X.env := by rfl) (hln : (apos.endLine == pos.line) = true := by rfl) :
    PEn n X (.Call (.Attribute o "replace" apos) [.BinOp (.Subscript (.Name kx p2) (.Constant (.int 1) j0 c0) q0) .Mult (.Constant (.int 2) j1 c1) q2, .Subscript (.Name kx p4) (.Constant (.int 1) j2 c2) q3] [] pos) (tReplM to i n) := by
  constructor
  intro pins s σ H Q l I h
  refine PySem.Call_method2 hbs hst hln (thk l (ho.run pins s σ H _ l I h) ?_)
  rintro v s1 l1 ⟨y, H1, I1, r1, x, p, a, rfl, hσ, ⟨m, t0, t, hp, ht, htn⟩, ha, hz, q⟩
  obtain ⟨tx, rfl⟩ := r1
  have tup : ∀ s', Inv X pins σ H1 s' → s'.heap.IsTuple p #[.str "once" t0, .str a t] := fun s' I' => ⟨_, (I'.hok p _ hp).1, rfl, m, rfl⟩
  refine ⟨"str", _, F.plainAttrs_str, F.slot_str_replace, F.type_str_replace, typeIs_str _ _ _, (fun _ e => nomatch e), Calls.callWith_builtin rfl (Calls.evalArgs_plain (Calls.spliced_cons (wpAny_BinOp ?_)))⟩
  refine thk l1 (item_rawV (Q := fun w s' => w = Value.str a t ∧ Inv X pins σ H1 s') hN hv I1 hσ tup (by decide) (by show (1:Int) < ((2:Nat):Int); decide) (by show 2 ≤ 1000; decide) rfl (fun s2 I2 => ⟨rfl, I2⟩) (fun _ _ => rfl) hd hcd) ?_
  rintro w1 s2 l2 ⟨rfl, I2⟩
  refine wpAny_Constant_int ?_
  have e2 : (⟨(List.replicate (2 : Int).toNat a.cps).foldl (· ++ ·) #[]⟩ : Str) = a ++ a := by
    show (⟨#[] ++ a.cps ++ a.cps⟩ : Str) = ⟨a.cps ++ a.cps⟩
    rw [Array.empty_append]
  have l2a : (a ++ a).length = 2 := by
    have e := Str.length_append a a
    rw [e, ha]
  refine PySem.P.mul_str (by decide) (fun _ _ => by rw [ha]; decide) (fun _ _ => by rw [ha]; decide) ?_
  rw [if_neg (by decide), if_neg (by rw [ha]; decide), e2]
  refine ⟨by rw [l2a]; decide, ?_⟩
  refine Calls.spliced_cons (item_rawV hN hv ((I2.tok (s2.toks + 1)).tok (s2.toks + 1 + 1)) hσ tup (by decide) (by show (1:Int) < ((2:Nat):Int); decide) (by show 2 ≤ 1000; decide) rfl (fun s4 I4 => Calls.spliced_nil ?_) (fun _ _ => rfl) hd hcd)
  have lt : t < s2.toks + 1 := Nat.lt_succ_of_lt (Nat.lt_of_lt_of_le htn l2)
  refine replace_all (unbooked (nb_of I4.ok.mod nb) I4) (Nat.ne_of_gt (Nat.lt_of_le_of_lt (Nat.zero_le _) lt)) ht (fun e => absurd lt (by rw [← e]; exact Nat.lt_irrefl _)) (by rw [ha]; omega) fun t' k => ⟨.str (Txt.replace x (a ++ a) a), H1, I4.tok k, ⟨t', rfl⟩, q⟩
/-! ### aa in line -/
theorem pairB_iff (a : Nat) : ∀ l : List Nat, pairB a l = true ↔ ∃ i, l[i]? = some a ∧ l[i + 1]? = some a
  | [] => by simp [pairB]
  | [x] => by
    constructor
    · intro h; cases h
    · rintro ⟨i, h1, h2⟩
      simp at h2
  | x :: y :: r => by
    have ih := pairB_iff a (y :: r)
    show ((decide (x = a) && decide (y = a)) || pairB a (y :: r)) = true ↔ _
    constructor
    · intro h
      rcases (Bool.or_eq_true _ _).mp h with q | q
      · obtain ⟨q1, q2⟩ := (Bool.and_eq_true _ _).mp q
        exact ⟨0, by rw [of_decide_eq_true q1]; rfl, by rw [of_decide_eq_true q2]; rfl⟩
      · obtain ⟨i, h1, h2⟩ := ih.mp q
        exact ⟨i + 1, by simpa using h1, by simpa using h2⟩
    · rintro ⟨i, h1, h2⟩
      refine (Bool.or_eq_true _ _).mpr ?_
      cases i with
      | zero =>
        left
        simp at h1 h2
        rw [h1, h2]; simp
      | succ i => exact .inr (ih.mpr ⟨i, by simpa using h1, by simpa using h2⟩)
theorem take2_iff (a : Nat) : ∀ (l : List Nat) (i : Nat), ((l.drop i).take 2 == [a, a]) = true ↔ (l[i]? = some a ∧ l[i + 1]? = some a)
  | [], i => by simp
  | x :: r, i + 1 => by
    rw [List.drop_succ_cons, take2_iff a r i]; simp
  | [x], 0 => by simp
  | x :: y :: r, 0 => by simp
theorem in_pair (a : Nat) (l : List Nat) : (!(Builtin.Str.occurrences (S l) (S [a, a]) 0 (S l).length 1).isEmpty) = pairB a l := by
  rw [Bool.eq_iff_iff, PySem.StrLaws.found_iff, pairB_iff]
  have e : ∀ i, Builtin.Str.subAt (S l) (S [a, a]) i = ((l.drop i).take 2 == [a, a]) := fun i => by
    rw [PySem.StrLaws.subAt_eq, S_len]
    have e1 : (S l).cps.toList = l := by simp [S]
    have e2 : (S [a, a]).cps.toList = [a, a] := by simp [S]
    rw [e1, e2]; rfl
  constructor
  · rintro ⟨i, h1, h2⟩
    rw [e] at h2
    exact ⟨i, (take2_iff a l i).mp h2⟩
  · rintro ⟨i, h1, h2⟩
    refine ⟨i, ?_, ?_⟩
    · rw [S_len, S_len]
      have := (List.getElem?_eq_some_iff.mp h2).1
      show i + 2 ≤ _
      omega
    · rw [e]; exact (take2_iff a l i).mpr ⟨h1, h2⟩
end Pd

set_option maxHeartbeats 4000000
namespace Pd
open PySem PySem.Spec PyProof.Rows L2 SX
def spLFold (K : PySem.W.Frag) (n : Nat) : Sp := fun vs H Q _ => ∃ (r : Addr) (sts : List Stp) (l : List Nat), vs = [.ref r, .str (S l)] ∧ RowB K n H r sts ∧ Good l ∧ ∀ H', Ext H H' → Q (.str (S (mks sts l))) H'
section
variable {P : Program} {w : World} {K : PySem.W.Frag} {mg : Str → Option Value} {base : Heap}
theorem ok_lfold {f : Addr} {fd : FuncData} (n : Nat) (F : Fun K "_law_fold" "_law_fold" sLawFold f fd) (T : Nms mg) (nb : PySem.W.nsIn K cStatics sharingNotToldKey = some none) : FnN n P w K mg base 1 f (spLFold K n) := by
  refine fnN_of F scLawFold (fun kV doc pm an cdv ct us hl => match us, hl with | [_, _], _ => rfl) (fun vs H Q E h => ?_) (fun cdv A outer s H vs Q E hr h => ?_)
  · obtain ⟨p, st, l, rfl, _⟩ := h
    rfl
  · obtain ⟨r, sts, l, rfl, ⟨ps, hr0, al⟩, hG, q⟩ := h
    have nd := scLawFold.nd
    refine ⟨_, PSsn.nox (pssn_cons (psn_for PassesOwn.never rfl (pi_tup (pv 0)) (pg_name (i := 2) nd rfl (Or.inr rfl)) (pssn_one
      (psn_if (ptn (pt_cmpR op_eq (pe_ix ix_tup (pv 2) pe_int (fun _ _ => rfl)) pe_str (nomark _))) (pssn (pss_one (ps_set (i := 1) nd rfl (Or.inl rfl) (pe_lower (pv 1)))))
      (pssn_one (psn_if (ptn (pt_cmpR op_eq (pe_ix ix_tup (pv 2) pe_int (fun _ _ => rfl)) pe_str (nomark _))) (pssn (pss_one (ps_set (i := 1) nd rfl (Or.inl rfl) (pe_replV (i := 2) nb (pv 1) rfl (.inr (.inl rfl))))))
      (pssn_one (psn_if (ptn (pt_cmpR op_eq (pe_ix ix_tup (pv 2) pe_int (fun _ _ => rfl)) pe_str (nomark _))) (pssn (pss_one (ps_set (i := 1) nd rfl (Or.inl rfl) (pe_join pe_str
        (pe_lc (own := [("one", 3)]) (g := gName 3) rfl nd (pi_str (pv 1)) (blkOk_by (N := ["steps", "text", "step", "one"]) (sc := defScope sLawFold) (by decide +kernel)) (fun _ _ _ _ _ => pg_name (i := 3) nd rfl (Or.inl rfl)) (fun _ _ _ _ _ => pts_one (pt_cmpR op_notIn_sign (pv 3) (pe_ix (ix_tupK (K := K) rfl) (pv 2) pe_int (fun _ _ => rfl)) rfl))
          (fun _ _ _ _ _ => pv 3))))))
      (pssn_one (psn_if (ptn (pt_cmpR op_eq (pe_ix ix_tup (pv 2) pe_int (fun _ _ => rfl)) pe_str (nomark _))) (pssn (pss_one (ps_set (i := 1) nd rfl (Or.inl rfl) (pe_m1 PySem.F.slot_str_lstrip PySem.F.type_str_lstrip mt_lstripChars (pv 1) (pe_ix ix_tup (pv 2) pe_int (fun _ _ => rfl))))))
      (pssn_one (psn_if (ptn (pt_cmpR op_eq (pe_ix ix_tup (pv 2) pe_int (fun _ _ => rfl)) pe_str (nomark _)))
        (pssn_one (psn_while PassesOwn.never (ptn (pt_cmpR op_in_str (pe_op op_mulS (pe_ix ix_tup (pv 2) pe_int (fun _ _ => rfl)) pe_int) (pv 1) rfl)) (pssn_one (psn_set (i := 1) nd rfl (Or.inl rfl) (pen_replM (i := 2) nb (pen (pv 1)) rfl (.inr (.inl rfl)))))))
      (pssn (pss_one (ps_set (i := 1) nd rfl (Or.inl rfl) (pe_slice C8.sl_txt (pv 1) po_none (po_some (pe_ix ix_tup (pv 2) pe_int (fun _ _ => rfl))))))))))))))))))
      (pssn_one (psn (ps_ret (pv 1))))), ?_⟩
    refine ⟨_, rfl, r, rfl, ⟨_, hr0⟩, for_it (walk_tup (xs := ps.map V.ref)) (fun i σ H' => ∃ u, σ = [some (.ref r), some (.str (S (mks (sts.take i) l))), u, none] ∧ Ext H H') ⟨none, by rw [List.take_zero]; rfl, .refl⟩ (fun i σ H' _ p => by
      obtain ⟨u, _, k⟩ := p
      exact sqT_keep hr0 (fun o x => k r o x)) ?_ ?_⟩
    · rintro i x σ H2 H3 hi ⟨u, rfl, k2⟩ ⟨rfl, hx⟩
      rw [List.getElem?_map] at hx
      obtain ⟨p, hp, rfl⟩ := Option.map_eq_some_iff.mp hx
      obtain ⟨st, e, hst0, ok⟩ := al.get hp
      have hst := hst0.ext k2
      have gd : Good (mks (sts.take i) l) := mks_good (fun s hs => al.al.ok s (List.mem_of_mem_take hs)) hG
      have em := mks_take l e
      generalize mks (sts.take i) l = m at gd em ⊢
      generalize mks (sts.take (i + 1)) l = m' at em ⊢
      have hl60 := gd.2
      have in0 : ∀ {H' : Hp}, Ext H3 H' → SqT K H' p (stpVals st) := fun k => (hst.1.ext k).seq
      have wa := word_at st
      have sq := hst.1.seq (K := K)
      have no : ∀ {a b : Str}, a ≠ b → ¬ decide (V.str a = V.str b) = true := fun ne h => ne (by injection of_decide_eq_true h)
      cases st with
      | low =>
        refine ⟨_, rfl, p, _, 0, _, rfl, rfl, sq, wa, rfl, _, rfl, ite2 (fun _ => ?_) (fun h => absurd (decide_eq_true rfl) h)⟩
        refine ⟨_, rfl, ⟨_, rfl⟩, _, rfl, rfl, by rw [S_len]; omega, ?_⟩
        rw [lower_mk gd, ← em]
        exact ⟨_, rfl, k2⟩
      | swap a b =>
        refine ⟨_, rfl, p, _, 0, _, rfl, rfl, sq, wa, rfl, _, rfl, ite2 (fun h => absurd h (no (show ("swap" : Str) ≠ "lower" by decide +kernel))) (fun _ => ?_)⟩
        refine ⟨_, rfl, p, _, 0, _, rfl, rfl, sq, wa, rfl, _, rfl, ite2 (fun _ => ?_) (fun h => absurd (decide_eq_true rfl) h)⟩
        refine ⟨_, rfl, S m, p, sg a, sg b, rfl, rfl, hst.1, ?_, ?_⟩
        · have e : (sg b).length = 1 := rfl
          rw [S_len, e]; omega
        · rw [replace_mk, ← em]
          exact ⟨_, rfl, k2⟩
      | drop cs =>
        refine ⟨_, rfl, p, _, 0, _, rfl, rfl, sq, wa, rfl, _, rfl, ite2 (fun h => absurd h (no (show ("drop" : Str) ≠ "lower" by decide +kernel))) (fun _ => ?_)⟩
        refine ⟨_, rfl, p, _, 0, _, rfl, rfl, sq, wa, rfl, _, rfl, ite2 (fun h => absurd h (no (show ("drop" : Str) ≠ "swap" by decide +kernel))) (fun _ => ?_)⟩
        refine ⟨_, rfl, p, _, 0, _, rfl, rfl, sq, wa, rfl, _, rfl, ite2 (fun _ => ?_) (fun h => absurd (decide_eq_true rfl) h)⟩
        refine ⟨⟨_, rfl⟩, _, rfl, _, rfl, fun D' hD => lc_text (fun c => if c ∉ cs then some c else none) (by omega) hD (fun c H2 acc Nx hc k3 hacc hal nx => ⟨rfl, ?_⟩) fun H2 h2 k3 => ?_⟩
        · refine ⟨_, rfl, _, rfl, p, _, 1, .str (S cs), rfl, rfl, in0 k3, rfl, c, S cs, rfl, rfl, _, rfl, ?_⟩
          show if (!decide (c ∈ cs)) = true then _ else _
          by_cases hc : c ∈ cs
          · rw [decide_eq_true hc]
            refine iteF (nx H2 ?_ k3)
            rw [if_neg (fun h => h hc)]
            show H2 D' = some (.lst (acc ++ []))
            rw [List.append_nil]; exact hacc
          · rw [decide_eq_false hc]
            refine iteT ⟨_, rfl, acc, hacc, hal, nx _ ?_ (k3.new hD)⟩
            rw [if_pos hc]; exact upd_same
        · rw [← mk_drop] at h2
          have hm := mk_len (.drop cs) m
          refine ⟨_, D', (mk (.drop cs) m).map sg, rfl, rfl, .inl (SqL.of h2), ?_, ?_⟩
          · rw [sum_sg, List.length_map]
            show (mk (.drop cs) m).length + (mk (.drop cs) m).length * 0 ≤ 16777216
            omega
          · rw [join_sg, ← em]
            exact ⟨_, rfl, k2.trans k3⟩
      | lead a =>
        refine ⟨_, rfl, p, _, 0, _, rfl, rfl, sq, wa, rfl, _, rfl, ite2 (fun h => absurd h (no (show ("lead" : Str) ≠ "lower" by decide +kernel))) (fun _ => ?_)⟩
        refine ⟨_, rfl, p, _, 0, _, rfl, rfl, sq, wa, rfl, _, rfl, ite2 (fun h => absurd h (no (show ("lead" : Str) ≠ "swap" by decide +kernel))) (fun _ => ?_)⟩
        refine ⟨_, rfl, p, _, 0, _, rfl, rfl, sq, wa, rfl, _, rfl, ite2 (fun h => absurd h (no (show ("lead" : Str) ≠ "drop" by decide +kernel))) (fun _ => ?_)⟩
        refine ⟨_, rfl, p, _, 0, _, rfl, rfl, sq, wa, rfl, _, rfl, ite2 (fun _ => ?_) (fun h => absurd (decide_eq_true rfl) h)⟩
        refine ⟨_, rfl, ⟨_, rfl⟩, _, rfl, p, _, 1, .str (sg a), rfl, rfl, in0 .refl, rfl, _, _, rfl, rfl, by rw [S_len, sizeLine_eq]; omega, ?_⟩
        rw [lstrip_mk, ← em]
        exact ⟨_, rfl, k2⟩
      | once a =>
        refine ⟨_, rfl, p, _, 0, _, rfl, rfl, sq, wa, rfl, _, rfl, ite2 (fun h => absurd h (no (show ("once" : Str) ≠ "lower" by decide +kernel))) (fun _ => ?_)⟩
        refine ⟨_, rfl, p, _, 0, _, rfl, rfl, sq, wa, rfl, _, rfl, ite2 (fun h => absurd h (no (show ("once" : Str) ≠ "swap" by decide +kernel))) (fun _ => ?_)⟩
        refine ⟨_, rfl, p, _, 0, _, rfl, rfl, sq, wa, rfl, _, rfl, ite2 (fun h => absurd h (no (show ("once" : Str) ≠ "drop" by decide +kernel))) (fun _ => ?_)⟩
        refine ⟨_, rfl, p, _, 0, _, rfl, rfl, sq, wa, rfl, _, rfl, ite2 (fun h => absurd h (no (show ("once" : Str) ≠ "lead" by decide +kernel))) (fun _ => ?_)⟩
        refine ⟨_, rfl, p, _, 0, _, rfl, rfl, sq, wa, rfl, _, rfl, ite2 (fun _ => ?_) (fun h => absurd (decide_eq_true rfl) h)⟩
        have ne1 : a + 1 ≠ a := by omega
        refine ⟨fun k σ H' => ∃ m2, k = m2.length ∧ σ = [some (.ref r), some (.str (S m2)), some (.ref p), none] ∧ H' = H3 ∧ m2.length ≤ m.length ∧ onceP a (a + 1) m2 = onceP a (a + 1) m, ⟨_, m, rfl, rfl, rfl, Nat.le_refl _, rfl⟩, ?_⟩
        rintro k σ H' ⟨m2, rfl, rfl, rfl, hm2, ho⟩
        refine ⟨_, rfl, p, _, 1, .str (sg a), rfl, rfl, sq, rfl, sg a, 2, rfl, rfl, ⟨by decide, fun _ _ => by show ¬ ((1 : Nat) : Int) > _; decide, fun _ _ => by show Builtin.Str.tooLong (1 * 2) = false; decide⟩, _, rfl, _, _, rfl, rfl, _, rfl, ?_⟩
        have e2 : Txt.mul (sg a) 2 = S [a, a] := by
          unfold Txt.mul
          rw [if_neg (by decide), if_neg (by show ¬ ((2 : Int) == 1 || 1 == 0) = true; decide)]
          rfl
        rw [e2, in_pair]
        cases hp2 : pairB a m2 with
        | true =>
          refine ⟨_, fun _ _ z => z, ?_⟩
          refine ⟨_, rfl, S m2, p, sg a, rfl, rfl, hst.2 a rfl, rfl, by rw [S_len]; omega, ?_⟩
          rw [replace_halve]
          have lt := halve_lt a _ m2 (Nat.le_refl _) hp2
          exact ⟨_, lt, _, rfl, rfl, rfl, by omega, by rw [onceP_halve a _ _ _ (Nat.le_refl _), ho]⟩
        | false =>
          have e3 := once_end ne1 ho hp2
          refine ⟨some (.ref p), ?_, k2⟩
          rw [em, e3]
          rfl
      | cut n =>
        refine ⟨_, rfl, p, _, 0, _, rfl, rfl, sq, wa, rfl, _, rfl, ite2 (fun h => absurd h (no (show ("cut" : Str) ≠ "lower" by decide +kernel))) (fun _ => ?_)⟩
        refine ⟨_, rfl, p, _, 0, _, rfl, rfl, sq, wa, rfl, _, rfl, ite2 (fun h => absurd h (no (show ("cut" : Str) ≠ "swap" by decide +kernel))) (fun _ => ?_)⟩
        refine ⟨_, rfl, p, _, 0, _, rfl, rfl, sq, wa, rfl, _, rfl, ite2 (fun h => absurd h (no (show ("cut" : Str) ≠ "drop" by decide +kernel))) (fun _ => ?_)⟩
        refine ⟨_, rfl, p, _, 0, _, rfl, rfl, sq, wa, rfl, _, rfl, ite2 (fun h => absurd h (no (show ("cut" : Str) ≠ "lead" by decide +kernel))) (fun _ => ?_)⟩
        refine ⟨_, rfl, p, _, 0, _, rfl, rfl, sq, wa, rfl, _, rfl, ite2 (fun h => absurd h (no (show ("cut" : Str) ≠ "once" by decide +kernel))) (fun _ => ?_)⟩
        refine ⟨_, rfl, _, rfl, p, _, 1, .int (n : Nat), rfl, rfl, in0 .refl, rfl, (n : Nat), rfl, S m, rfl, by rw [S_len, sizeLine_eq]; omega, ?_⟩
        rw [slice_to (by omega), Int.toNat_natCast, ← show m' = m.take n from em]
        exact ⟨_, rfl, k2⟩
    · rintro σ H2 ⟨u, rfl, k2⟩
      refine ⟨_, rfl, ?_⟩
      rw [List.length_map, al.al.len, List.take_length]
      exact q H2 k2
end
end Pd

set_option maxHeartbeats 4000000
namespace Pd
open PySem PySem.Spec PyProof.Rows L2 SX
/-! ### the second family of drawing defs: wells and pools -/
theorem p27 : (10 : Int) ^ (27 : Int).toNat + 103 = 1000000000000000000000000103 := by decide +kernel
theorem p40' : (10 : Int) ^ (40 : Int).toNat + 121 = 10000000000000000000000000000000000000121 := by decide +kernel
theorem p38 : (10 : Int) ^ (38 : Int).toNat + 133 = 100000000000000000000000000000000000133 := by decide +kernel
theorem p9 : (10 : Int) ^ (9 : Int).toNat = 1000000000 := by decide +kernel
section
variable {P : Program} {w : World} {K : PySem.W.Frag} {mg : Str → Option Value} {base : Heap}
theorem ok_well {f : Addr} {fd : FuncData} (F : Fun K "_law_well" "_law_well" sLawWell f fd) (T : Nms mg) : FnOk P w K mg base CX0 1 f fd ["script", "k"] (spJar K) := by
  refine F.ok scLawWell (fun vs H Q E h => ?_) (fun cdv A outer s H vs Q E hr h => ?_)
  · obtain ⟨a, ns, k, rfl, _⟩ := h
    rfl
  · obtain ⟨a, ns, k, rfl, hS, hl, hk0, hk1, q⟩ := h
    have nd := scLawWell.nd
    have pw : ∀ e : Int, 0 ≤ e → e ≤ 1000 → CPowW 10 e := fun e h0 h1 => powW_ok2 (a := 4) (by decide) (by decide) h0 h1 (by decide)
    refine ⟨_, pss_cons (ps_set (i := 2) nd rfl (Or.inl rfl) pe_int)
      (C8.pss_cut (ps_if (pt_cmpR op_lt (pv 1) (pe_callB call_len_seq (by rfl) T.len PySem.boot_len (pa_cons (pv 0) pa_nil)) (nomark _))
        (pss_one (ps_set (i := 2) nd rfl (Or.inl rfl) (pe_callTy call_int1 (by rfl) T.int (by decide +kernel) (pa_cons (pe_ix ix_list (pv 0) (pv 1) (fun _ _ => rfl)) pa_nil)))) pss_nil)
      (pss_cons (ps_set (i := 3) nd rfl (Or.inl rfl) (pe_op op_mul pe_int (pv 2)))
      (C8.pss_cut (ps_if (pt_cmpR op_lt (pv 2) pe_int (nomark _)) (pss_one (ps_set (i := 3) nd rfl (Or.inl rfl) (pe_op op_sub (pe_op op_mul (pe_un un_neg pe_int) (pv 2)) pe_int))) pss_nil)
      (pss_one (ps_ret (pe_lst (pa_cons (pe_callB (call_max2 rfl) (by rfl) T.max (by decide +kernel) (pa_cons pe_int (pa_cons (pe_op op_sub (pv 3) (pe_op op_powW pe_int pe_int)) pa_nil)))
        (pa_cons (pe_op op_add (pe_op op_mod (pe_callTy call_int1 (by rfl) T.int (by decide +kernel) (pa_cons (pv 3) pa_nil)) (pe_op op_add (pe_op op_powW pe_int pe_int) pe_int)) (pe_op op_mul pe_int (pv 1)))
        (pa_cons pe_int pa_nil))))))))), ?_⟩
    refine ⟨fun σ' H' => H' = H ∧ ∃ c : Int, σ' = [some (.ref a), some (.int k), some (.int c), none], ?_, ?_⟩
    · refine ⟨_, rfl, _, rfl, a, _, rfl, .inl hS, _, _, rfl, rfl, _, rfl, ite2 (fun hlt => ?_) (fun _ => ⟨rfl, 0, rfl⟩)⟩
      rw [List.length_map] at hlt
      have hlt' := of_decide_eq_true hlt
      have hkn : k.toNat < ns.length := by omega
      have hat : atI (ns.map V.int) k = some (.int (ns[k.toNat]'hkn)) := by
        have e : ((k.toNat : Nat) : Int) = k := by omega
        have z := atI_nat (xs := ns.map V.int) (j := k.toNat) (v := .int (ns[k.toNat]'hkn)) (by simp [hkn])
        rw [e] at z
        exact z
      exact ⟨_, rfl, _, rfl, a, _, _, _, rfl, rfl, hS, hat, .inl ⟨_, rfl, rfl, _, rfl⟩⟩
    · rintro σ' H' ⟨rfl, c, rfl⟩
      refine ⟨_, rfl, _, _, rfl, rfl, .inl ⟨by decide, by decide⟩, ?_⟩
      refine ⟨fun σ' H'' => H'' = H' ∧ ∃ d : Int, σ' = [some (.ref a), some (.int k), some (.int c), some (.int d)], ?_, ?_⟩
      · refine ⟨_, rfl, _, _, rfl, rfl, _, rfl, ite2 (fun hlt => ?_) (fun _ => ⟨rfl, _, rfl⟩)⟩
        exact ⟨_, rfl, _, rfl, _, _, rfl, rfl, .inl ⟨by decide, by decide⟩, _, _, rfl, rfl, rfl, _, rfl⟩
      · rintro σ' H'' ⟨rfl, d, rfl⟩
        refine ⟨_, rfl, _, _, rfl, rfl, pw 18 (by decide) (by decide), _, _, rfl, rfl, _, _, rfl, _, rfl, .inl ⟨_, rfl, _, _, rfl, rfl, pw 27 (by decide) (by decide), _, _, rfl, rfl, _, _, rfl, rfl, (show (0:Int) < 10 ^ (27 : Int).toNat + 103 by rw [p27]; decide),
          _, rfl, _, _, rfl, rfl, .inl ⟨by decide, by decide⟩, _, _, rfl, rfl, by show 3 ≤ sizeLine; decide, fun l hl => ?_⟩⟩
        refine q l _ hl ⟨_, _, _, upd_same, ?_, ?_, ?_, by decide, by decide⟩ fun b o h => by rw [upd_ne (ne_of_none h hl)]; exact h
        · split <;> omega
        · rw [p27]; omega
        · rw [p27]; omega
theorem ok_bdraw {f : Addr} {fd : FuncData} (F : Fun K "_law_draw" "_law_draw" sLawDraw f fd) (T : Nms mg) : FnOk P w K mg base CX0 1 f fd ["well", "many"] spDraw := by
  refine F.ok scLawDraw (fun vs H Q E h => ?_) (fun cdv A outer s H vs Q E hr h => ?_)
  · obtain ⟨j, m, n, rfl, _⟩ := h
    rfl
  · obtain ⟨j, m, n, rfl, hJ, hn, hm1, hm2, q⟩ := h
    have nd := scLawDraw.nd
    obtain ⟨a, b, c, hj, ha, hb0, hb, hc0, hc⟩ := hJ
    have S : ∀ {H : Hp} {xs : List V}, H j = some (.lst xs) → SqL K H j xs := fun h => SqL.of h
    refine ⟨_, pss_cons (ps_if (pt_cmpR op_gt (pe_ix ix_list (pv 0) pe_int (fun _ _ => rfl)) pe_int (nomark _))
        (pss_cons (ps_set (i := 2) nd rfl (Or.inl rfl) (pe_op op_mod (pe_callTy call_int1 (by rfl) T.int (by decide +kernel) (pa_cons (pe_ix ix_list (pv 0) pe_int (fun _ _ => rfl)) pa_nil)) (pv 1)))
        (pss_cons (ps_asg (pe_op op_fdivW (pe_ix ix_list (pv 0) pe_int (fun _ _ => rfl)) (pv 1)) (pg_sub (pv 0) pe_int set_list))
        (pss_one (ps_ret (pv 2))))) pss_nil)
      (pss_cons (ps_set (i := 3) nd rfl (Or.inl rfl) (pe_op op_add (pe_ix ix_list (pv 0) pe_int (fun _ _ => rfl)) pe_int))
      (pss_cons (ps_asg (pv 3) (pg_sub (pv 0) pe_int set_list))
      (pss_cons (ps_set (i := 4) nd rfl (Or.inl rfl) (pe_op op_mod (pe_callTy call_int1 (by rfl) T.int (by decide +kernel) (pa_cons
          (pe_op op_add (pe_op op_powW (pe_op op_add (pe_ix ix_list (pv 0) pe_int (fun _ _ => rfl)) (pe_op op_mul pe_int (pv 3))) pe_int) (pe_op op_mul pe_int (pv 3))) pa_nil))
          (pe_op op_add (pe_op op_powW pe_int pe_int) pe_int)))
      (pss_cons (ps_set (i := 4) nd rfl (Or.inl rfl) (pe_op op_mod (pe_callTy call_int1 (by rfl) T.int (by decide +kernel) (pa_cons
          (pe_op op_powW (pe_op op_add (pv 4) (pe_op op_mul pe_int (pv 3))) pe_int) pa_nil))
          (pe_op op_add (pe_op op_powW pe_int pe_int) pe_int)))
      (pss_one (ps_ret (pe_op op_mod (pe_callTy call_int1 (by rfl) T.int (by decide +kernel) (pa_cons (pe_op op_fdivW (pv 4) (pe_op op_powW pe_int pe_int)) pa_nil)) (pv 1)))))))), ?_⟩
    have pw : ∀ e : Int, 0 ≤ e → e ≤ 1000 → CPowW 10 e := fun e h0 h1 => powW_ok2 (a := 4) (by decide) (by decide) h0 h1 (by decide)
    have m20 : m.natAbs < 2 ^ 200 := by
      have : (2:Nat)^200 = 1606938044258990275541962092341162602522202993782792835301376 := by decide +kernel
      skip
      omega
    refine ⟨_, rfl, j, _, 0, _, rfl, rfl, S hj, rfl, _, _, rfl, rfl, _, rfl, ite2 (fun hlt => ?_) (fun hlt => ?_)⟩
    · refine ⟨_, rfl, j, _, 0, _, rfl, rfl, S hj, rfl, .inl ⟨_, rfl, _, rfl, _, _, rfl, rfl, (show 0 < m by omega), ?_⟩⟩
      refine ⟨_, rfl, j, _, 0, _, rfl, rfl, S hj, rfl, _, rfl, _, _, rfl, rfl, wide_div (by omega) m20 (by decide) (by decide), ?_⟩
      refine ⟨_, rfl, j, _, 0, 0, rfl, rfl, hj, rfl, _, rfl, ?_⟩
      refine q _ _ (Int.emod_nonneg _ (by omega)) (Int.emod_lt_of_pos _ (by omega)) ⟨a / m, b, c, upd_same, Int.ediv_nonneg ha (by omega), hb0, hb, hc0, by omega⟩ .upd
    · refine ⟨_, rfl, j, _, 2, _, rfl, rfl, S hj, rfl, _, _, rfl, rfl, ?_⟩
      refine ⟨_, rfl, _, rfl, j, _, 2, 2, rfl, rfl, hj, rfl, ?_⟩
      have hj2 : (L2.upd H j (.lst [V.int a, V.int b, V.int (c + 1)])) j = some (.lst [V.int a, V.int b, V.int (c + 1)]) := upd_same
      show tSeq _ _ _ _ (L2.upd H j (.lst [V.int a, V.int b, V.int (c + 1)]))
      have l140 : (2:Nat)^140 = 1393796574908163946345982392040522594123776 := by decide +kernel
      refine ⟨_, rfl, j, _, 1, _, rfl, rfl, S hj2, rfl, _, rfl, _, _, rfl, rfl, .inl ⟨by decide, by decide⟩, _, _, rfl, rfl, _, _, rfl, rfl, powW_ok2 (a := 140) (by rw [l140]; omega) (by decide) (by decide) (by decide) (by decide),
        _, rfl, _, _, rfl, rfl, .inl ⟨by decide, by decide⟩, _, _, rfl, rfl, .inl ⟨_, rfl, _, _, rfl, rfl, pw 40 (by decide) (by decide), _, _, rfl, rfl, _, _, rfl, rfl, (show (0:Int) < 10 ^ (40 : Int).toNat + 121 by rw [p40']; decide), ?_⟩⟩
      generalize hs : ((b + 15485863 * (c + 1)) ^ Int.toNat 3 + 982451653 * (c + 1)) % (10 ^ Int.toNat 40 + 121) = st
      have hs0 : 0 ≤ st := by rw [← hs]; exact Int.emod_nonneg _ (by rw [p40']; decide)
      have hs1 : st < 10000000000000000000000000000000000000121 := by rw [← hs, p40']; exact Int.emod_lt_of_pos _ (by decide)
      refine ⟨_, rfl, _, rfl, _, _, rfl, rfl, .inl ⟨by decide, by decide⟩, _, _, rfl, rfl, _, _, rfl, rfl, powW_ok2 (a := 140) (by rw [l140]; omega) (by decide) (by decide) (by decide) (by decide),
        .inl ⟨_, rfl, _, _, rfl, rfl, pw 38 (by decide) (by decide), _, _, rfl, rfl, _, _, rfl, rfl, (show (0:Int) < 10 ^ (38 : Int).toNat + 133 by rw [p38]; decide), ?_⟩⟩
      refine ⟨_, rfl, _, _, rfl, rfl, pw 9 (by decide) (by decide), _, _, rfl, rfl, wide_div (b := 200) (by rw [p9]; decide) (by rw [p9]; decide +kernel) (by decide) (by decide), .inl ⟨_, rfl, _, rfl, _, _, rfl, rfl, (show 0 < m by omega), ?_⟩⟩
      exact q _ _ (Int.emod_nonneg _ (by omega)) (Int.emod_lt_of_pos _ (by omega)) ⟨a, b, c + 1, upd_same, ha, hb0, hb, by omega, by omega⟩ .upd
end
end Pd

set_option maxHeartbeats 4000000
namespace Pd
open PySem PySem.Spec PyProof.Rows L2 SX
theorem chS : ("abcdefghijklmnopqrstuvwxyzABCDEFGHIJKLMNOPQRSTUVWXYZ0123456789 -._/'" : Str) = S CH := by decide +kernel
def spChars : Sp := fun vs H Q _ => vs = [] ∧ Q (.str (S CH)) H
/-- six signs, as a text -/
def PoolOk (l : List Nat) : Prop := l.length = 6 ∧ ∀ c ∈ l, c ∈ CH
def spPool : Sp := fun vs H Q _ => ∃ (j : Addr) (n : Nat), vs = [.ref j] ∧ JarAt H j n ∧ n + 6 < 1000000 ∧ ∀ l H', PoolOk l → JarAt H' j (n + 6) → Kp j H H' → Q (.str (S l)) H'
def spCharacter : Sp := fun vs H Q _ => ∃ (j : Addr) (n : Nat) (l : List Nat), vs = [.ref j, .str (S l)] ∧ JarAt H j n ∧ PoolOk l ∧ n + 2 < 1000000 ∧ ∀ c H', c ∈ CH → JarAt H' j (n + 2) → Kp j H H' → Q (.str (sg c)) H'
def spBstep : Sp := fun vs H Q _ => ∃ (j : Addr) (n : Nat) (l : List Nat), vs = [.ref j, .str (S l)] ∧ JarAt H j n ∧ PoolOk l ∧ n + 50 < 1000000 ∧
  ∀ p st H', H p = none → st.ok → StpAt H' p st → JarAt H' j (n + 50) → Kp j H H' → Q (.ref p) H'
section
variable {P : Program} {w : World} {K : PySem.W.Frag} {mg : Str → Option Value} {base : Heap}
theorem ok_chars {f : Addr} {fd : FuncData} (F : Fun K "_law_chars" "_law_chars" sLawChars f fd) : FnOk P w K mg base CX0 1 f fd [] spChars := by
  refine F.ok scLawChars (fun vs H Q E h => ?_) (fun cdv A outer s H vs Q E hr h => ?_)
  · obtain ⟨rfl, _⟩ := h
    rfl
  · obtain ⟨rfl, q⟩ := h
    refine ⟨_, pss_one (ps_ret pe_str), ?_⟩
    show Q (.str _) H
    rw [chS]
    exact q
/-- a def without arguments, by its name -/
theorem pe_cl0 {X : Cx} {k j : Nat} {x : Str} {sp : Sp} {p pos : Pos} (c : Cl X.prog X.w X.K X.mg X.base k x sp) (hr : Room j X.A) (hk : k ≤ j) (hg : Gl X x) (hdb : (x == ("__debug__" : Str)) = false := by decide) :
    PE X (.Call (.Name x p) [] [] pos) (tCall sp [] E0 tNil) := by
  obtain ⟨f, fd, ps, F, hm, kp, b⟩ := c.ex
  exact pe_call0 F (hr.mono hk) hg hm kp b .nil pass0 hdb
theorem CH_at {r : Int} (h0 : 0 ≤ r) (h1 : r < 68) : ∃ c ∈ CH, (S CH).cps[r.toNat]? = some c := by
  have hr : r.toNat < CH.length := by rw [CH_len]; omega
  exact ⟨CH[r.toNat], List.getElem_mem hr, S_at hr⟩
theorem ok_character {f : Addr} {fd : FuncData} (F : Fun K "_law_character" "_law_character" sLawCharacter f fd) (D : Cl P w K mg base 1 "_law_draw" spDraw) (C : Cl P w K mg base 1 "_law_chars" spChars) : FnT P w K mg base CX0 2 f spCharacter := by
  refine fnT_if F scLawCharacter rfl (fun kV doc pm an cdv ct us hl => match us, hl with | [_, _], _ => rfl) (fun vs H Q E h => ?_) (fun cdv A outer s H vs Q E hr h => ?_)
  · obtain ⟨j, n, l, rfl, _⟩ := h
    rfl
  · obtain ⟨j, n, l, rfl, hJ, ⟨hl, hc⟩, hn, q⟩ := h
    refine ⟨_, _, _, ptf_eqI (pe_cl D hr (by decide) rfl (pa_cons (pv 0) (pa_cons pe_int pa_nil))), peg_ix (pe_cl0 C hr (by decide) rfl) (pe_cl D hr (by decide) rfl (pa_cons (pv 0) (pa_cons pe_int pa_nil))) (fun _ _ => rfl),
      peg_ix (pv 1) (pe_cl D hr (by decide) rfl (pa_cons (pv 0) (pa_cons pe_int pa_nil))) (fun _ _ => rfl), ?_⟩
    refine ⟨_, rfl, j, 4, n, rfl, hJ, by omega, by decide, by decide, fun r H1 h0 h1 J1 k1 => ⟨r, rfl, ite2 (fun _ => ?_) (fun _ => ?_)⟩⟩
    · refine ⟨rfl, _, rfl, _, rfl, j, 68, _, rfl, J1, by omega, by decide, by decide, fun r2 H2 h02 h12 J2 k2 => ?_⟩
      obtain ⟨c, hcC, e⟩ := CH_at h02 h12
      exact ⟨r2, c, rfl, h02, by rw [S_len, CH_len]; omega, by rw [S_len]; decide, e, q _ _ hcC J2 (k1.trans k2)⟩
    · refine ⟨_, rfl, _, rfl, _, rfl, j, 6, _, rfl, J1, by omega, by decide, by decide, fun r2 H2 h02 h12 J2 k2 => ?_⟩
      have hr2 : r2.toNat < l.length := by omega
      exact ⟨r2, l[r2.toNat], rfl, h02, by rw [S_len]; omega, by rw [S_len]; omega, S_at hr2, q _ _ (hc _ (List.getElem_mem hr2)) J2 (k1.trans k2)⟩
theorem ok_bstep {f : Addr} {fd : FuncData} (F : Fun K "_law_step" "_law_step" sLawStep f fd) (T : Nms mg) (D : Cl P w K mg base 1 "_law_draw" spDraw) (G : ClT P w K mg base 2 "_law_character" spCharacter) : FnOk P w K mg base CX0 3 f fd ["well", "pool"] spBstep := by
  refine F.ok scLawStep (fun vs H Q E h => ?_) (fun cdv A outer s H vs Q E hr h => ?_)
  · obtain ⟨j, n, l, rfl, _⟩ := h
    rfl
  · obtain ⟨j, n, l, rfl, hJ, hG, hn, q⟩ := h
    have nd := scLawStep.nd
    refine ⟨_, pss_cons (ps_set (i := 2) nd rfl (Or.inl rfl) (pe_cl D hr (by decide) rfl (pa_cons (pv 0) (pa_cons pe_int pa_nil))))
      (pss_cons (ps_if (pt_cmpR op_eq (pv 2) pe_int (nomark _)) (pss_one (ps_ret (pe_tup (pa_cons pe_str pa_nil)))) pss_nil)
      (pss_cons (ps_if (pt_cmpR op_eq (pv 2) pe_int (nomark _)) (pss_one (ps_retSwap (pef_cl G hr (by decide) rfl (pa_cons (pv 0) (pa_cons (pv 1) pa_nil))) (pef_cl G hr (by decide) rfl (pa_cons (pv 0) (pa_cons (pv 1) pa_nil))))) pss_nil)
      (pss_cons (ps_if (pt_cmpR op_eq (pv 2) pe_int (nomark _))
        (pss_cons (ps_set (i := 3) nd rfl (Or.inl rfl) pe_str)
        (pss_cons (ps_for PassesOwn.never rfl (pi_range1 rfl T.range (pa_cons (pe_op op_add pe_int (pe_cl D hr (by decide) rfl (pa_cons (pv 0) (pa_cons pe_int pa_nil)))) pa_nil)) (pg_name (i := 4) nd rfl (Or.inl rfl))
          (pss_cons (ps_set (i := 5) nd rfl (Or.inl rfl) (PEF.pe (pef_cl G hr (by decide) rfl (pa_cons (pv 0) (pa_cons (pv 1) pa_nil)))))
          (pss_one (ps_if (pt_cmpR op_notIn_sign (pv 5) (pv 3) rfl) (pss_one (ps_set (i := 3) nd rfl (Or.inl rfl) (pe_op op_add_str (pv 3) (pv 5)))) pss_nil))))
        (pss_one (ps_ret (pe_tup (pa_cons pe_str (pa_cons (pv 3) pa_nil))))))) pss_nil)
      (pss_cons (ps_if (pt_cmpR op_lt (pv 2) pe_int (nomark _)) (pss_one (ps_ret (pe_tup (pa_cons (pe_ix ix_list (pe_lst (pa_cons pe_str (pa_cons pe_str pa_nil))) (pe_op op_sub (pv 2) pe_int) (fun _ _ => rfl)) (pa_cons (PEF.pe (pef_cl G hr (by decide) rfl (pa_cons (pv 0) (pa_cons (pv 1) pa_nil)))) pa_nil))))) pss_nil)
      (pss_one (ps_ret (pe_tup (pa_cons pe_str (pa_cons (pe_op op_add pe_int (pe_cl D hr (by decide) rfl (pa_cons (pv 0) (pa_cons pe_int pa_nil)))) pa_nil)))))))))
      , ?_⟩
    have hj0 := hJ.lst
    obtain ⟨xs0, hx0⟩ := id hj0
    refine ⟨_, rfl, j, 6, n, rfl, hJ, by omega, by decide, by decide, fun r H1 h0 h1 J1 k1 => ?_⟩
    have new : ∀ {H3 : Hp} {p : Addr} {o : HO}, Kp j H H3 → JarAt H3 j (n + 50) → H3 p = none → H p = none ∧ JarAt (L2.upd H3 p o) j (n + 50) ∧ Kp j H (L2.upd H3 p o) := fun {H3 p o} k J hp =>
      ⟨k.none hp hj0 J.lst, J.new hp, k.new hp⟩
    refine ⟨_, rfl, rfl, _, rfl, ite2 (fun _ => ?_) (fun e0 => ?_)⟩
    · refine ⟨by show 1 ≤ sizeLine; decide, fun p hp => ?_⟩
      obtain ⟨a1, a2, a3⟩ := new (o := .tup [V.str "lower"]) k1 (J1.le (by omega)) hp
      exact q p .low _ a1 trivial upd_same a2 a3
    refine ⟨_, rfl, rfl, _, rfl, ite2 (fun _ => ?_) (fun e1 => ?_)⟩
    · refine ⟨_, rfl, _, rfl, j, _, l, rfl, J1, hG, by omega, fun c H2 hc J2 k2 => ?_⟩
      refine ⟨_, rfl, _, rfl, j, _, l, rfl, J2, hG, by omega, fun d H3 hd J3 k3 => ?_⟩
      refine ⟨_, _, rfl, rfl, fun p H4 np sw hs4 => ?_⟩
      have k13 := (k1.trans k2).trans k3
      obtain ⟨xs3, hx3⟩ := J3.lst
      refine q p (.swap c d) H4 (k13.none np hj0 J3.lst) ⟨hc, hd⟩ sw ((J3.kp (hs4 j (ne_of_none hx3 np))).le (by omega)) fun b o hb hbo => ?_
      have b3 := k13 b o hb hbo
      exact (hs4 b (ne_of_none b3 np)).trans b3
    refine ⟨_, rfl, rfl, _, rfl, ite2 (fun _ => ?_) (fun e2 => ?_)⟩
    · refine ⟨_, rfl, j, 10, _, rfl, J1, by omega, by decide, by decide, fun r2 H2 h02 h12 J2 k2 => ⟨_, _, rfl, rfl, _, rfl, by omega, by omega, ?_⟩⟩
      refine for_range (lo := 0) (n := (1 + r2).toNat) (fun i σ H' => ∃ (cs : List Nat) (u v : Option V), σ = [some (.ref j), some (.str (S l)), some (.int r), some (.str (S cs)), u, v] ∧ (∀ c ∈ cs, c ∈ CH) ∧ cs.Nodup ∧ (0 < i → 1 ≤ cs.length) ∧ cs.length ≤ i ∧ JarAt H' j (n + 2 + 2 * i) ∧ Kp j H H')
        ⟨[], none, none, rfl, (fun _ h => nomatch h), List.nodup_nil, fun h => absurd h (by decide), Nat.le_refl _, J2, k1.trans k2⟩ ?_ ?_
      · rintro i σ H3 hi ⟨cs, u, v, rfl, hcs, hnd, hc1, hcl, J3, k3⟩
        refine ⟨_, rfl, _, rfl, j, _, l, rfl, J3, hG, by omega, fun d H4 hd J4 k4 => ?_⟩
        refine ⟨_, rfl, _, rfl, d, _, rfl, rfl, _, rfl, ?_⟩
        show if (!decide (d ∈ cs)) = true then _ else _
        by_cases hdl : d ∈ cs
        · rw [decide_eq_true hdl]
          exact iteF ⟨cs, _, _, rfl, hcs, hnd, fun _ => List.length_pos_of_mem hdl, by omega, J4.le (by omega), k3.trans k4⟩
        · rw [decide_eq_false hdl]
          refine iteT ⟨_, rfl, _, rfl, _, _, rfl, rfl, by rw [sg_S, S_len, S_len, sizeLine_eq]; simp; omega, ?_⟩
          rw [sg_S, S_cat]
          refine ⟨cs ++ [d], _, _, rfl, fun c hc => ?_, ?_, fun _ => by rw [List.length_append]; simp, by rw [List.length_append]; simp; omega, J4.le (by omega), k3.trans k4⟩
          · rcases List.mem_append.mp hc with h | h
            · exact hcs c h
            · rw [List.mem_singleton.mp h]; exact hd
          · rw [List.nodup_append]
            refine ⟨hnd, List.nodup_cons.mpr ⟨List.not_mem_nil, List.nodup_nil⟩, fun x hx y hy => ?_⟩
            rw [List.mem_singleton.mp hy]
            rintro rfl
            exact hdl hx
      · rintro σ H3 ⟨cs, u, v, rfl, hcs, hnd, hc1, hcl, J3, k3⟩
        refine ⟨_, rfl, by show 2 ≤ sizeLine; decide, fun p hp => ?_⟩
        obtain ⟨a1, a2, a3⟩ := new (o := .tup [V.str "drop", V.str (S cs)]) k3 (J3.le (by omega)) hp
        exact q p (.drop cs) _ a1 ⟨hc1 (by omega), by omega, hnd, hcs⟩ upd_same a2 a3
    have e0' : r ≠ 0 := fun e => e0 (decide_eq_true (congrArg V.int e))
    have e1' : r ≠ 1 := fun e => e1 (decide_eq_true (congrArg V.int e))
    have e2' : r ≠ 2 := fun e => e2 (decide_eq_true (congrArg V.int e))
    refine ⟨_, rfl, _, _, rfl, rfl, _, rfl, ite2 (fun h5 => ?_) (fun h5 => ?_)⟩
    · have h5 := of_decide_eq_true h5
      refine ⟨by show 2 ≤ sizeLine; decide, fun lx hlx => ?_⟩
      have na : (L2.upd H1 lx (.lst [V.str "lead", V.str "once"])) lx = some (.lst [V.str "lead", V.str "once"]) := upd_same
      have k2' : Kp j H (L2.upd H1 lx (.lst [V.str "lead", V.str "once"])) := k1.new hlx
      have J2' : JarAt (L2.upd H1 lx (.lst [V.str "lead", V.str "once"])) j (n + 1) := J1.new hlx
      obtain rfl | rfl : r = 3 ∨ r = 4 := by omega
      · refine ⟨_, rfl, _, _, rfl, rfl, lx, _, 0, V.str "lead", rfl, rfl, SqL.of na, rfl, _, rfl, _, rfl, j, _, l, rfl, J2', hG, by omega, fun c H3 hc J3 k3 => ⟨by show 2 ≤ sizeLine; decide, fun p hp => ?_⟩⟩
        obtain ⟨a1, a2, a3⟩ := new (o := .tup [V.str "lead", V.str (sg c)]) (k2'.trans k3) (J3.le (by omega)) hp
        exact q p (.lead c) _ a1 hc upd_same a2 a3
      · refine ⟨_, rfl, _, _, rfl, rfl, lx, _, 1, V.str "once", rfl, rfl, SqL.of na, rfl, _, rfl, _, rfl, j, _, l, rfl, J2', hG, by omega, fun c H3 hc J3 k3 => ⟨by show 2 ≤ sizeLine; decide, fun p hp => ?_⟩⟩
        obtain ⟨a1, a2, a3⟩ := new (o := .tup [V.str "once", V.str (sg c)]) (k2'.trans k3) (J3.le (by omega)) hp
        exact q p (.once c) _ a1 hc (.inl upd_same) a2 a3
    · refine ⟨_, rfl, j, 9, _, rfl, J1, by omega, by decide, by decide, fun r3 H3 h03 h13 J3 k3 => ⟨_, _, rfl, rfl, by show 2 ≤ sizeLine; decide, fun p hp => ?_⟩⟩
      obtain ⟨a1, a2, a3⟩ := new (o := .tup [V.str "cut", V.int (1 + r3)]) (k1.trans k3) (J3.le (by omega)) hp
      refine q p (.cut (1 + r3).toNat) _ a1 ⟨by omega, by omega⟩ ?_ a2 a3
      show (L2.upd H3 p _) p = some (.tup [V.str "cut", V.int (((1 + r3).toNat : Nat) : Int)])
      rw [show (((1 + r3).toNat : Nat) : Int) = 1 + r3 by omega]
      exact upd_same
end
end Pd

set_option maxHeartbeats 4000000
namespace Pd
open PySem PySem.Spec PyProof.Rows L2 SX
theorem atI_S {l : List Nat} {i : Nat} {c : Nat} (h : l[i]? = some c) : atI (S l).cps.toList (i : Int) = some c := atI_nat h
theorem Al.snoc {H : Hp} {p : Addr} {st : Stp} (hp : StpAt H p st) (ok : st.ok) : ∀ {ps : List Addr} {sts : List Stp}, Al H ps sts → Al H (ps ++ [p]) (sts ++ [st])
  | _, _, .nil => .cons hp ok .nil
  | _, _, .cons h o r => .cons h o (r.snoc hp ok)
def spBrow (K : PySem.W.Frag) : Sp := fun vs H Q _ => ∃ (j : Addr) (n : Nat) (l : List Nat), vs = [.ref j, .str (S l)] ∧ JarAt H j n ∧ PoolOk l ∧ n + 400 < 1000000 ∧
  ∀ r sts H', H r = none → sts.length ≤ 6 → RowAt K H' r sts → JarAt H' j (n + 400) → Kp j H H' → Q (.ref r) H'
section
variable {P : Program} {w : World} {K : PySem.W.Frag} {mg : Str → Option Value} {base : Heap}
theorem ok_pool {f : Addr} {fd : FuncData} (F : Fun K "_law_pool" "_law_pool" sLawPool f fd) (T : Nms mg) (D : Cl P w K mg base 1 "_law_draw" spDraw) (C : Cl P w K mg base 1 "_law_chars" spChars) : FnOk P w K mg base CX0 2 f fd ["well"] spPool := by
  refine F.ok scLawPool (fun vs H Q E h => ?_) (fun cdv A outer s H vs Q E hr h => ?_)
  · obtain ⟨j, n, rfl, _⟩ := h
    rfl
  · obtain ⟨j, n, rfl, hJ, hn, q⟩ := h
    have nd := scLawPool.nd
    refine ⟨_, pss_cons (ps_asg (pe_tup (pa_cons (pe_cl0 C hr (by decide) rfl) (pa_cons (pe_cl D hr (by decide) rfl (pa_cons (pv 0) (pa_cons pe_int pa_nil))) pa_nil))) (pg_tup (by rfl) (pgs_cons (pg_name (i := 1) nd rfl (Or.inr rfl)) (pgs_cons (pg_name (i := 2) nd rfl (Or.inl rfl)) pgs_nil))))
      (pss_cons (ps_set (i := 3) nd rfl (Or.inl rfl) (pe_join pe_str (pe_lc (own := [("k", 4)]) (g := gName 4) (tt := tYes) rfl nd (pi_range1 rfl T.range (pa_cons pe_int pa_nil)) (blkOk_by (N := ["well", "chars", "letter", "more", "k"]) (sc := defScope sLawPool) (by decide +kernel)) (fun _ _ _ _ _ => pg_name (i := 4) nd rfl (Or.inl rfl)) (fun _ _ _ _ _ => pts_nil)
          (fun _ _ _ _ _ => pe_ix ix_str (pv 1) (pe_cl D hr (by decide) rfl (pa_cons (pv 0) (pa_cons pe_int pa_nil))) (fun _ _ => rfl)))))
      (pss_one (ps_ret (pe_op op_add_str (pe_op op_add_str (pe_ix ix_str (pv 1) (pv 2) (fun _ _ => rfl)) (pe_ix ix_str (pv 1) (pe_op op_add pe_int (pv 2)) (fun _ _ => rfl))) (pv 3))))), ?_⟩
    obtain ⟨xs0, hx0⟩ := hJ.lst
    refine ⟨rfl, _, rfl, j, 26, n, rfl, hJ, by omega, by decide, by decide, fun r H1 h0 h1 J1 k1 => ⟨by show 2 ≤ sizeLine; decide, fun t ht => ⟨t, _, rfl, SqT.of upd_same, rfl, _, _, rfl, _, _, rfl, rfl, ?_⟩⟩⟩
    have J1' := J1.new (o := .tup [V.str (S CH), V.int r]) ht
    have k1' : Kp j H (L2.upd H1 t (.tup [V.str (S CH), V.int r])) := k1.new ht
    refine ⟨⟨_, rfl⟩, 4, rfl, by decide, by decide, fun D1 hD => ?_⟩
    obtain ⟨xs1, hx1⟩ := J1'.lst
    have nDj : D1 ≠ j := fun e => by rw [e, hx1] at hD; cases hD
    refine lc_it (walk_range (lo := 0) (n := 4)) (fun i H' => ∃ m : List Nat, H' D1 = some (.lst ((m.map sg).map V.str)) ∧ m.length = i ∧ (∀ c ∈ m, c ∈ CH) ∧ JarAt H' j (n + 1 + i) ∧ Kp j H H')
      ⟨[], upd_same, rfl, (fun _ h => nomatch h), J1'.new hD, k1'.new hD⟩ (fun _ _ _ _ => trivial) ?_ ?_
    · rintro i x H2 H3 hi ⟨m, hD2, hl, hm, J2, k2⟩ ⟨rfl, rfl⟩
      refine ⟨rfl, _, rfl, _, rfl, j, 68, _, rfl, J2, by omega, by decide, by decide, fun r4 H4 h04 h14 J4 k4 => ?_⟩
      obtain ⟨c, hc, ec⟩ := CH_at h04 h14
      refine ⟨S CH, r4, c, rfl, rfl, by rw [S_len, CH_len, sizeLine_eq]; decide, ?_, ?_⟩
      · have e : ((r4.toNat : Nat) : Int) = r4 := by omega
        have z := atI_S (l := CH) (i := r4.toNat) (c := c) (by simpa [S] using ec)
        rw [e] at z
        exact z
      have hD4 : H4 D1 = some (.lst ((m.map sg).map V.str)) := k4 D1 _ nDj hD2
      refine ⟨_, hD4, by rw [List.length_map, List.length_map, hl, sizeLine_eq]; omega, m ++ [c], ?_, by rw [List.length_append, hl]; rfl, fun d hd => ?_, ?_, ?_⟩
      · rw [upd_same, List.map_append, List.map_append]; rfl
      · rcases List.mem_append.mp hd with h | h
        · exact hm d h
        · rw [List.mem_singleton.mp h]; exact hc
      · obtain ⟨a', b', c', e1, e2⟩ := J4.le (show n + 1 + i + 1 ≤ n + 1 + (i + 1) by omega)
        exact ⟨a', b', c', by rw [upd_ne nDj.symm]; exact e1, e2⟩
      · intro b o nb hb
        have nbD : b ≠ D1 := ne_of_none (k1' b o nb hb) hD
        rw [upd_ne nbD]; exact (k2.trans k4) b o nb hb
    · rintro H2 ⟨m, hD2, hl, hm, J2, k2⟩
      refine ⟨_, D1, m.map sg, rfl, rfl, .inl (SqL.of hD2), ?_, ?_⟩
      · rw [sum_sg, List.length_map]
        show m.length + m.length * 0 ≤ 16777216
        omega
      rw [join_sg]
      have hr : r.toNat < CH.length := by rw [CH_len]; omega
      have hr2 : (26 + r).toNat < CH.length := by rw [CH_len]; omega
      refine ⟨_, rfl, _, rfl, S CH, r, CH[r.toNat], rfl, rfl, by rw [S_len, CH_len, sizeLine_eq]; decide, ?_, _, rfl, _, rfl, _, _, rfl, rfl, ?_⟩
      · have e : ((r.toNat : Nat) : Int) = r := by omega
        have z := atI_S (l := CH) (i := r.toNat) (c := CH[r.toNat]) (by simp [hr])
        rw [e] at z
        exact z
      refine ⟨S CH, 26 + r, CH[(26 + r).toNat], rfl, rfl, by rw [S_len, CH_len, sizeLine_eq]; decide, ?_, _, _, rfl, rfl, by show 2 ≤ sizeLine; decide, _, rfl, _, _, rfl, rfl, ?_, ?_⟩
      · have e : (((26 + r).toNat : Nat) : Int) = 26 + r := by omega
        have z := atI_S (l := CH) (i := (26 + r).toNat) (c := CH[(26 + r).toNat]) (by simp [hr2])
        rw [e] at z
        exact z
      · show 2 + (S m).length ≤ sizeLine
        rw [S_len, hl, sizeLine_eq]; decide
      · show Q (.str (sg CH[r.toNat] ++ sg CH[(26 + r).toNat] ++ S m)) H2
        rw [sg_S, sg_S, S_cat, S_cat]
        refine q _ _ ⟨by rw [List.length_append, hl]; rfl, fun c hc => ?_⟩ (J2.le (by omega)) k2
        rcases List.mem_append.mp hc with h | h
        · rcases List.mem_append.mp h with h | h
          · rw [List.mem_singleton.mp h]; exact List.getElem_mem hr
          · rw [List.mem_singleton.mp h]; exact List.getElem_mem hr2
        · exact hm c h
theorem ok_bsteps {f : Addr} {fd : FuncData} (F : Fun K "_law_steps" "_law_steps" sLawSteps f fd) (T : Nms mg) (D : Cl P w K mg base 1 "_law_draw" spDraw) (G : Cl P w K mg base 3 "_law_step" spBstep) : FnOk P w K mg base CX0 4 f fd ["well", "pool"] (spBrow K) := by
  refine F.ok scLawSteps (fun vs H Q E h => ?_) (fun cdv A outer s H vs Q E hr h => ?_)
  · obtain ⟨j, n, l, rfl, _⟩ := h
    rfl
  · obtain ⟨j, n, l, rfl, hJ, hG, hn, q⟩ := h
    have nd := scLawSteps.nd
    refine ⟨_, pss_one (ps_ret (pe_callTy call_tuple_of (by rfl) T.tuple (by decide +kernel) (pa_cons (pe_lc (own := [("turn", 2)]) (g := gName 2) (tt := tYes) rfl nd
      (pi_range1 rfl T.range (pa_cons (pe_cl D hr (by decide) rfl (pa_cons (pv 0) (pa_cons pe_int pa_nil))) pa_nil)) (blkOk_by (N := ["well", "pool", "turn"]) (sc := defScope sLawSteps) (by decide +kernel)) (fun _ _ _ _ _ => pg_name (i := 2) nd rfl (Or.inl rfl)) (fun _ _ _ _ _ => pts_nil)
      (fun _ _ _ _ _ => pe_cl G hr (by decide) rfl (pa_cons (pv 0) (pa_cons (pv 1) pa_nil)))) pa_nil))), ?_⟩
    obtain ⟨xs0, hx0⟩ := hJ.lst
    refine ⟨_, rfl, j, 7, n, rfl, hJ, by omega, by decide, by decide, fun r H1 h0 h1 J1 k1 => ⟨_, rfl, by omega, by omega, fun D1 hD => ?_⟩⟩
    obtain ⟨xs1, hx1⟩ := J1.lst
    have nDj : D1 ≠ j := fun e => by rw [e, hx1] at hD; cases hD
    refine lc_it (walk_range (lo := 0) (n := r.toNat)) (fun i H' => ∃ (ps : List Addr) (sts : List Stp), H' D1 = some (.lst (ps.map V.ref)) ∧ Al H' ps sts ∧ sts.length = i ∧ JarAt H' j (n + 1 + 50 * i) ∧ Kp j H H')
      ⟨[], [], upd_same, .nil, rfl, J1.new hD, k1.new hD⟩ (fun _ _ _ _ => trivial) ?_ ?_
    · rintro i x H2 H3 hi ⟨ps, sts, hD2, al, hl, J2, k2⟩ ⟨rfl, rfl⟩
      obtain ⟨xs3, hx3⟩ := J2.lst
      refine ⟨rfl, _, rfl, _, rfl, j, _, l, rfl, J2, hG, by omega, fun p st H4 np ok hst J4 k4 => ?_⟩
      have hD4 : H4 D1 = some (.lst (ps.map V.ref)) := k4 D1 _ nDj hD2
      have kD : ∀ o, Kp D1 H4 (L2.upd H4 D1 o) := fun o => .upd
      refine ⟨_, hD4, by rw [List.length_map, al.len, sizeLine_eq]; omega, ps ++ [p], sts ++ [st], ?_, ?_, by rw [List.length_append, hl]; rfl, ?_, ?_⟩
      · rw [upd_same, List.map_append]; rfl
      · exact Al.snoc (hst.kp (kD _) hD4) ok ((al.kp k4 hx3).kp (kD _) hD4)
      · obtain ⟨a', b', c', e1, e2⟩ := J4.le (show n + 1 + 50 * i + 50 ≤ n + 1 + 50 * (i + 1) by omega)
        exact ⟨a', b', c', by rw [upd_ne nDj.symm]; exact e1, e2⟩
      · intro b o nb hb
        rw [upd_ne (ne_of_none (k1 b o nb hb) hD)]; exact (k2.trans k4) b o nb hb
    · rintro H2 ⟨ps, sts, hD2, al, hl, J2, k2⟩
      refine ⟨D1, _, rfl, .inl ⟨SqL.of hD2, fun t ht => ?_⟩⟩
      have kt : Ext H2 (L2.upd H2 t (.tup (ps.map V.ref))) := Ext.refl.new ht
      exact q t sts _ (k2.none ht ⟨_, hx0⟩ J2.lst) (by omega) ⟨ps, SqT.of upd_same, al.ext kt⟩ ((J2.ext kt).le (by omega)) (k2.trans kt.kp)
end
end Pd

set_option maxHeartbeats 4000000
namespace Pd
open PySem PySem.Spec PyProof.Rows L2 SX
/-! ### what is written of steps and foldings -/
def tild (c : Nat) : Nat := swapC 32 126 c
def wordL : Stp → List Nat
  | .low => [108, 111, 119, 101, 114] | .swap _ _ => [115, 119, 97, 112] | .drop _ => [100, 114, 111, 112] | .lead _ => [108, 101, 97, 100] | .once _ => [111, 110, 99, 101] | .cut _ => [99, 117, 116]
theorem word_S (st : Stp) : wordOf st = S (wordL st) := by
  have h : ("lower" : Str) = S [108, 111, 119, 101, 114] ∧ ("swap" : Str) = S [115, 119, 97, 112] ∧ ("drop" : Str) = S [100, 114, 111, 112] ∧ ("lead" : Str) = S [108, 101, 97, 100] ∧ ("once" : Str) = S [111, 110, 99, 101] ∧ ("cut" : Str) = S [99, 117, 116] := by decide +kernel
  obtain ⟨h1, h2, h3, h4, h5, h6⟩ := h
  cases st
  · exact h1
  · exact h2
  · exact h3
  · exact h4
  · exact h5
  · exact h6
def argL : Stp → List (List Nat)
  | .low => [] | .swap a b => [[tild a], [tild b]] | .drop cs => [cs.map tild] | .lead a => [[tild a]] | .once a => [[tild a]] | .cut n => [[48 + n]]
def partL (st : Stp) : List Nat := TL.joinL [32] (wordL st :: argL st)
def plainL : List Nat := [112, 108, 97, 105, 110]
def ftext (sts : List Stp) : List Nat := if sts = [] then plainL else TL.joinL [59, 32] (sts.map partL)
/-- a value and the word that is written of it -/
def WordIs (v : V) (x : List Nat) : Prop := (∃ l : List Nat, v = .str (S l) ∧ l.length ≤ 60 ∧ x = l.map tild) ∨ ∃ n : Nat, 1 ≤ n ∧ n ≤ 9 ∧ v = .int (n : Nat) ∧ x = [48 + n]
theorem arg_len (st : Stp) : (argL st).length = (stpVals st).tail.length := by cases st <;> rfl
theorem arg_get {st : Stp} (ok : st.ok) {i : Nat} {v : V} (h : (stpVals st).tail[i]? = some v) : ∃ x, (argL st)[i]? = some x ∧ WordIs v x := by
  have one : ∀ c : Nat, WordIs (.str (sg c)) [tild c] := fun c => .inl ⟨[c], rfl, by simp, rfl⟩
  cases st with
  | low => simp [stpVals] at h
  | swap a b =>
    match i, h with
    | 0, h => simp [stpVals] at h; subst h; exact ⟨_, rfl, one a⟩
    | 1, h => simp [stpVals] at h; subst h; exact ⟨_, rfl, one b⟩
    | i + 2, h => simp [stpVals] at h
  | drop cs =>
    match i, h with
    | 0, h => simp [stpVals] at h; subst h; exact ⟨_, rfl, .inl ⟨cs, rfl, Nat.le_trans ok.2.1 (by decide), rfl⟩⟩
    | i + 1, h => simp [stpVals] at h
  | lead a =>
    match i, h with
    | 0, h => simp [stpVals] at h; subst h; exact ⟨_, rfl, one a⟩
    | i + 1, h => simp [stpVals] at h
  | once a =>
    match i, h with
    | 0, h => simp [stpVals] at h; subst h; exact ⟨_, rfl, one a⟩
    | i + 1, h => simp [stpVals] at h
  | cut n =>
    match i, h with
    | 0, h => simp [stpVals] at h; subst h; exact ⟨_, rfl, .inr ⟨n, ok.1, ok.2, rfl, rfl⟩⟩
    | i + 1, h => simp [stpVals] at h
theorem word_tild (st : Stp) : (wordL st).map tild = wordL st := by cases st <;> rfl
theorem word_len (st : Stp) : (wordL st).length ≤ 5 := by cases st <;> simp [wordL]
theorem word_get {st : Stp} (ok : st.ok) {i : Nat} {v : V} (h : (stpVals st)[i]? = some v) : ∃ x, (wordL st :: argL st)[i]? = some x ∧ WordIs v x := by
  cases i with
  | zero =>
    have e : (stpVals st)[0]? = some (.str (wordOf st)) := by cases st <;> rfl
    rw [e] at h
    cases h
    exact ⟨_, rfl, .inl ⟨wordL st, by rw [word_S], Nat.le_trans (word_len st) (by decide), (word_tild st).symm⟩⟩
  | succ i =>
    have e : (stpVals st)[i + 1]? = (stpVals st).tail[i]? := by cases st <;> rfl
    rw [e] at h
    obtain ⟨x, hx, hw⟩ := arg_get ok h
    exact ⟨x, by simpa using hx, hw⟩
theorem arg_lens {st : Stp} (ok : st.ok) : ∀ x ∈ argL st, x.length ≤ 10 := by
  intro x hx
  cases st with
  | low => exact nomatch hx
  | swap a b => simp [argL] at hx; rcases hx with rfl | rfl <;> simp
  | drop cs => simp [argL] at hx; subst hx; rw [List.length_map]; exact ok.2.1
  | lead a => simp [argL] at hx; subst hx; simp
  | once a => simp [argL] at hx; subst hx; simp
  | cut n => simp [argL] at hx; subst hx; simp
theorem arg_few (st : Stp) : (argL st).length ≤ 2 := by cases st <;> simp [argL]
theorem sum_le {m : Nat} : ∀ {xs : List (List Nat)}, (∀ x ∈ xs, x.length ≤ m) → (xs.map (·.length)).sum ≤ xs.length * m
  | [], _ => by simp
  | x :: xs, h => by
    have h1 := h x (List.mem_cons_self ..)
    have h2 := sum_le (xs := xs) fun y hy => h y (List.mem_cons_of_mem _ hy)
    rw [List.map_cons, List.sum_cons, List.length_cons, Nat.add_mul]
    omega
theorem sum_S (xs : List (List Nat)) : ((xs.map S).map (·.length)).sum = (xs.map (·.length)).sum := by
  rw [List.map_map]
  congr 1
theorem joinL_len (sep : List Nat) : ∀ xs : List (List Nat), (TL.joinL sep xs).length ≤ (xs.map (·.length)).sum + xs.length * sep.length
  | [] => by simp [TL.joinL]
  | [x] => by simp [TL.joinL]
  | x :: y :: r => by
    have ih := joinL_len sep (y :: r)
    show (x ++ (sep ++ TL.joinL sep (y :: r))).length ≤ _
    rw [List.length_append, List.length_append, List.map_cons, List.sum_cons, List.length_cons, Nat.add_mul]
    omega
theorem part_len {st : Stp} (ok : st.ok) : (partL st).length ≤ 33 := by
  have h1 := joinL_len [32] (wordL st :: argL st)
  have h2 := sum_le (m := 10) (arg_lens ok)
  have h3 := word_len st
  have h4 := arg_few st
  rw [List.map_cons, List.sum_cons, List.length_cons] at h1
  have h5 : (argL st).length * 10 ≤ 20 := by omega
  have h6 : ((argL st).length + 1) * ([32] : List Nat).length ≤ 3 := by show ((argL st).length + 1) * 1 ≤ 3; omega
  show (TL.joinL [32] (wordL st :: argL st)).length ≤ 33
  omega
theorem parts_len {sts : List Stp} (ok : ∀ st ∈ sts, st.ok) : ∀ x ∈ sts.map partL, x.length ≤ 33 := fun x hx => by
  obtain ⟨st, h, rfl⟩ := List.mem_map.mp hx
  exact part_len (ok st h)
theorem ftext_len {sts : List Stp} (ok : ∀ st ∈ sts, st.ok) (h6 : sts.length ≤ 6) : (ftext sts).length ≤ 300 := by
  unfold ftext
  split
  · decide
  · have h1 := joinL_len [59, 32] (sts.map partL)
    have h2 := sum_le (parts_len ok)
    rw [List.length_map] at h1 h2
    have h3 : sts.length * ([59, 32] : List Nat).length ≤ 12 := by show sts.length * 2 ≤ 12; omega
    omega
theorem tild_S (l : List Nat) : Txt.replace (S l) " " "~" = S (l.map tild) := by
  have e1 : (" " : Str) = sg 32 := by decide +kernel
  have e2 : ("~" : Str) = sg 126 := by decide +kernel
  rw [e1, e2, replace_mk]
  rfl
theorem digit_S : ∀ n : Nat, 1 ≤ n → n ≤ 9 → (toString ((n : Nat) : Int) : Str) = S [48 + n] := by
  intro n h1 h2
  obtain rfl | rfl | rfl | rfl | rfl | rfl | rfl | rfl | rfl : n = 1 ∨ n = 2 ∨ n = 3 ∨ n = 4 ∨ n = 5 ∨ n = 6 ∨ n = 7 ∨ n = 8 ∨ n = 9 := by omega
  all_goals decide +kernel
/-- the tuple behind its first item -/
theorem slice1 {K : PySem.W.Frag} {H : Hp} {r : Addr} {xs : List V} {Q : VK} (hR : SqT K H r xs) (h1 : 1 ≤ xs.length) (q : ∀ r' H', Ext H H' → SqT K H' r' xs.tail → Q (.ref r') H') : rSlA K (.ref r) (some 1) none H Q := by
  have e1 : HT.sIx xs.length 0 (some 1) = 1 := by
    have := HT.sIx_nat xs.length 0 1
    rw [show ((1 : Nat) : Int) = 1 from rfl] at this
    rw [this]; omega
  refine ⟨r, _, rfl, hR, fun hw => ?_, fun hw p np => ?_⟩
  · have e := hw.1
    rw [e1] at e
    omega
  · refine q p _ (Ext.refl.new np) (SqT.of ?_)
    rw [upd_same]
    unfold cutV
    rw [e1, HT.sIx_none, List.take_of_length_le (by rw [List.length_drop]; exact Nat.le_refl _), List.drop_one]
end Pd

set_option maxHeartbeats 4000000
namespace Pd
open PySem PySem.Spec PyProof.Rows L2 SX
theorem slice1' {K : PySem.W.Frag} {σ : L2.St} {H : Hp} {r : Addr} {xs : List V} {Q : VK} (hR : SqT K H r xs) (h1 : 1 ≤ xs.length) (q : ∀ r' H', Ext H H' → SqT K H' r' xs.tail → Q (.ref r') H') : tNoPart σ H fun u H3 => rSlA K (.ref r) (some 1) u H3 Q := slice1 hR h1 q
def spWord : Sp := fun vs H Q _ => ∃ v x, vs = [v] ∧ WordIs v x ∧ Q (.str (S x)) H
def spPart : Sp := fun vs H Q _ => ∃ (p : Addr) (st : Stp), vs = [.ref p] ∧ StpAt H p st ∧ st.ok ∧ ∀ H', Ext H H' → Q (.str (S (partL st))) H'
def spFText (K : PySem.W.Frag) (C : Addr) : Sp := fun vs H Q _ => ∃ (o r : Addr) (sts : List Stp), vs = [.ref o] ∧ FoldAt K C H o r sts ∧ ∀ H', Ext H H' → Q (.str (S (ftext sts))) H'
/-- the texts' constants -/
structure CstT (mg : Str → Option Value) : Prop where
  between : ∃ t, mg "BETWEEN_STEPS" = some (.str "; " t)
  without : ∃ t, mg "WITHOUT_STEPS" = some (.str "plain" t)
theorem semi_S : ("; " : Str) = S [59, 32] := by decide +kernel
theorem space_S : (" " : Str) = S [32] := by decide +kernel
theorem plain_S : ("plain" : Str) = S plainL := by decide +kernel
theorem Al.get' {H : Hp} : ∀ {ps : List Addr} {sts : List Stp} {i : Nat} {p : Addr}, Al H ps sts → ps[i]? = some p → ∃ st, sts[i]? = some st ∧ StpAt H p st ∧ st.ok := Al.get
section
variable {P : Program} {w : World} {K : PySem.W.Frag} {mg : Str → Option Value} {base : Heap}
end
end Pd

set_option maxHeartbeats 4000000
namespace Pd
open PySem PySem.Spec PyProof.Rows L2 SX
def spLText (K : PySem.W.Frag) : Sp := fun vs H Q _ => ∃ (r : Addr) (sts : List Stp), vs = [.ref r] ∧ RowAt K H r sts ∧ sts.length ≤ 6 ∧ ∀ H', Ext H H' → Q (.str (S (ftext sts))) H'
theorem joinL_one (sep : List Nat) (x : List Nat) : TL.joinL sep [x] = x := rfl
/-- two values that are the same at any depth below n -/
inductive Sm (K : PySem.W.Frag) (H : Hp) : Nat → V → V → Prop where
  | str {n : Nat} (z : Str) : Sm K H n (.str z) (.str z)
  | int {n : Nat} (i : Int) : Sm K H n (.int i) (.int i)
  | tup {n : Nat} {a b : Addr} {xs ys : List V} (h1 : SqT K H a xs) (h2 : SqT K H b ys) (hl : xs.length = ys.length) (hb : xs.length ≤ 1000) (h : ∀ (i : Nat) (x y : V), xs[i]? = some x → ys[i]? = some y → Sm K H n x y) : Sm K H (n + 1) (.ref a) (.ref b)
theorem Sm.ext {K : PySem.W.Frag} {H H' : Hp} (k : Ext H H') : ∀ {n : Nat} {x y : V}, Sm K H n x y → Sm K H' n x y
  | _, _, _, .str z => .str z
  | _, _, _, .int i => .int i
  | _, _, _, .tup h1 h2 hl hb h => .tup (sqT_keep h1 fun o e => k _ o e) (sqT_keep h2 fun o e => k _ o e) hl hb fun i x y e1 e2 => (h i x y e1 e2).ext k
def spSame (K : PySem.W.Frag) (n : Nat) : Sp := fun vs H Q _ => ∃ x y, vs = [x, y] ∧ Sm K H n x y ∧ ∀ H', Ext H H' → Q (.bl true) H'
theorem sm_vals {K : PySem.W.Frag} {H : Hp} {p : Addr} {st : Stp} (h : StpAt H p st) : Sm K H 1 (.ref p) (.ref p) := by
  refine .tup h.seq h.seq rfl (by cases st <;> simp [stpVals]) fun i x y e1 e2 => ?_
  rw [e1] at e2
  cases e2
  have key : ∀ v ∈ stpVals st, Sm K H 0 v v := by
    intro v hv
    cases st <;> simp [stpVals] at hv <;> (try rcases hv with rfl | rfl | rfl) <;> (try rcases hv with rfl | rfl) <;> (try subst hv) <;> first | exact .str _ | exact .int _
  exact key x (List.mem_of_getElem? e1)
theorem sm_row {K : PySem.W.Frag} {H : Hp} {r : Addr} {sts : List Stp} (h : RowAt K H r sts) (h6 : sts.length ≤ 6) : Sm K H 2 (.ref r) (.ref r) := by
  obtain ⟨ps, hp, al⟩ := h
  refine .tup hp hp rfl (by rw [List.length_map, al.len]; omega) fun i x y e1 e2 => ?_
  rw [e1] at e2
  cases e2
  rw [List.getElem?_map] at e1
  obtain ⟨p, hp', rfl⟩ := Option.map_eq_some_iff.mp e1
  obtain ⟨st, _, hst, _⟩ := al.get hp'
  exact sm_vals hst
theorem ne_sameI {n : Int} {A B : Prop} (h : B) : if (!decide (V.int n = V.int n)) = true then A else B := by
  rw [decide_eq_true rfl]; exact h
section
variable {P : Program} {w : World} {K : PySem.W.Frag} {mg : Str → Option Value} {base : Heap}
theorem ok_same {f : Addr} {fd : FuncData} (F : Fun K "_law_same" "_law_same" sLawSame f fd) (T : Nms mg) (m : mg "_law_same" = some (.ref f)) (kp : PySem.W.keepIn K (.ref f) = true) (b : Binds K fd ["actual", "expected"] []) : ∀ n : Nat, FnOk P w K mg base CX0 (n + 1) f fd ["actual", "expected"] (spSame K n) := by
  have body : ∀ n : Nat, (∀ m', n = m' + 1 → FnOk P w K mg base CX0 n f fd ["actual", "expected"] (spSame K m')) → FnOk P w K mg base CX0 (n + 1) f fd ["actual", "expected"] (spSame K n) := by
    intro n ih
    refine F.ok scLawSame (fun vs H Q E h => ?_) (fun cdv A outer s H vs Q E hr h => ?_)
    · obtain ⟨x, y, rfl, _⟩ := h
      rfl
    · obtain ⟨x, y, rfl, sm, q⟩ := h
      have nd := scLawSame.nd

      cases sm with
      | str z =>
        refine ⟨_, pss_cons (ps_if (pt_val (pe_callB call_isi (by rfl) T.isi (by decide +kernel) (pa_cons (pv 1) (pa_cons (pe_bltn (v := .ty "tuple") (by rfl) T.tuple (by decide +kernel) rfl) pa_nil)))) pss_never pss_nil)
          (pss_cons (ps_if (pt_val (pe_callB call_isi (by rfl) T.isi (by decide +kernel) (pa_cons (pv 1) (pa_cons (pe_bltn (v := .ty "str") (by rfl) T.str (by decide +kernel) rfl) pa_nil))))
            (pss_one (ps_ret (pe_and (pe_callB call_isi (by rfl) T.isi (by decide +kernel) (pa_cons (pv 0) (pa_cons (pe_bltn (v := .ty "str") (by rfl) T.str (by decide +kernel) rfl) pa_nil))) (pe_one (pe_cmpR op_eq (pv 0) (pv 1) (nomark _)))))) pss_nil)
          pss_never), ?_⟩
        refine ⟨_, rfl, _, _, _, _, false, rfl, .ty "tuple", .base (.str _), kit_ty (by decide +kernel), false, rfl, iteF ?_⟩
        refine ⟨_, rfl, _, _, _, _, true, rfl, .ty "str", .base (.str _), kit_ty (by decide +kernel), true, rfl, iteT ?_⟩
        refine ⟨_, rfl, _, _, _, _, true, rfl, .ty "str", .base (.str _), kit_ty (by decide +kernel), true, rfl, iteT ⟨_, rfl, _, rfl, rfl, ?_⟩⟩
        rw [decide_eq_true rfl]
        exact q H .refl
      | int i =>
        refine ⟨_, pss_cons (ps_if (pt_val (pe_callB call_isi (by rfl) T.isi (by decide +kernel) (pa_cons (pv 1) (pa_cons (pe_bltn (v := .ty "tuple") (by rfl) T.tuple (by decide +kernel) rfl) pa_nil)))) pss_never pss_nil)
          (pss_cons (ps_if (pt_val (pe_callB call_isi (by rfl) T.isi (by decide +kernel) (pa_cons (pv 1) (pa_cons (pe_bltn (v := .ty "str") (by rfl) T.str (by decide +kernel) rfl) pa_nil)))) pss_never pss_nil)
          (pss_one (ps_ret (pe_and (pe_callB call_isi (by rfl) T.isi (by decide +kernel) (pa_cons (pv 0) (pa_cons (pe_bltn (v := .ty "int") (by rfl) T.int (by decide +kernel) rfl) pa_nil)))
            (pe_and (pe_not (pe_callB call_isi (by rfl) T.isi (by decide +kernel) (pa_cons (pv 0) (pa_cons (pe_bltn (v := .ty "bool") (by rfl) T.bool (by decide +kernel) rfl) pa_nil)))) (pe_one (pe_cmpR op_eq (pv 0) (pv 1) (nomark _)))))))), ?_⟩
        refine ⟨_, rfl, _, _, _, _, false, rfl, .ty "tuple", .base (.int _), kit_ty (by decide +kernel), false, rfl, iteF ?_⟩
        refine ⟨_, rfl, _, _, _, _, false, rfl, .ty "str", .base (.int _), kit_ty (by decide +kernel), false, rfl, iteF ?_⟩
        refine ⟨_, rfl, _, _, _, _, true, rfl, .ty "int", .base (.int _), kit_ty (by decide +kernel), true, rfl, iteT ?_⟩
        refine ⟨_, rfl, _, _, _, _, false, rfl, .ty "bool", .base (.int _), kit_ty (by decide +kernel), false, rfl, true, rfl, iteT ⟨_, rfl, _, rfl, rfl, ?_⟩⟩
        rw [decide_eq_true rfl]
        exact q H .refl
      | @tup m' a c xs ys h1 h2 hl hb hs =>
        refine ⟨_, pss_cons (ps_if (pt_val (pe_callB call_isi (by rfl) T.isi (by decide +kernel) (pa_cons (pv 1) (pa_cons (pe_bltn (v := .ty "tuple") (by rfl) T.tuple (by decide +kernel) rfl) pa_nil))))
          (pss_cons (ps_if (PW.pt (pw_or (pt_not (pt_val (pe_callB call_isi (by rfl) T.isi (by decide +kernel) (pa_cons (pv 0) (pa_cons (pe_bltn (v := .ty "tuple") (by rfl) T.tuple (by decide +kernel) rfl) pa_nil)))))
              (pw_or1 (pt_cmpR op_ne (pe_callB call_len_seq (by rfl) T.len PySem.boot_len (pa_cons (pv 0) pa_nil)) (pe_callB call_len_seq (by rfl) T.len PySem.boot_len (pa_cons (pv 1) pa_nil)) (nomark _))))) pss_never pss_nil)
          (pss_cons (ps_for PassesOwn.never rfl (pi_range1 rfl T.range (pa_cons (pe_callB call_len_seq (by rfl) T.len PySem.boot_len (pa_cons (pv 1) pa_nil)) pa_nil)) (pg_name (i := 2) nd rfl (Or.inl rfl))
            (pss_one (ps_if (pt_not (pt_val (pe_call (ih m' rfl) (hr.mono (Nat.le_refl _)) rfl m kp b .nil pass0 (pa_cons (pe_ix ix_tup (pv 0) (pv 2) (fun _ _ => rfl)) (pa_cons (pe_ix ix_tup (pv 1) (pv 2) (fun _ _ => rfl)) pa_nil))))) pss_never pss_nil)))
          (pss_one (ps_ret pe_bl)))) pss_nil) pss_never, ?_⟩
        refine ⟨_, rfl, _, _, _, _, true, rfl, .ty "tuple", sqT_ty h2, kit_ty (by decide +kernel), true, rfl, iteT ?_⟩
        refine ⟨_, rfl, _, _, _, _, true, rfl, .ty "tuple", sqT_ty h1, kit_ty (by decide +kernel), true, rfl, iteF ?_⟩
        refine ⟨_, rfl, a, xs, rfl, .inr h1, _, rfl, c, ys, rfl, .inr h2, rfl, _, rfl, ?_⟩
        rw [hl]
        refine ne_sameI ?_
        refine ⟨_, rfl, c, ys, rfl, .inr h2, _, rfl, by omega, by omega, ?_⟩
        refine for_range (lo := 0) (n := ((ys.length : Nat) : Int).toNat) (fun i σ H' => ∃ u, σ = [some (.ref a), some (.ref c), u] ∧ Ext H H') ⟨none, rfl, .refl⟩ ?_ ?_
        · rintro i σ H2 hi ⟨u, rfl, k2⟩
          have hi' : i < ys.length := by omega
          have ei : (0 : Int) + (i : Nat) = ((i : Nat) : Int) := by omega
          have hx : xs[i]? = some xs[i] := List.getElem?_eq_getElem (by omega)
          have hy : ys[i]? = some ys[i] := List.getElem?_eq_getElem hi'
          refine ⟨_, rfl, _, rfl, a, xs, i, xs[i], rfl, by rw [ei], sqT_keep h1 (fun o e => k2 _ o e), atI_nat hx, ?_⟩
          refine ⟨_, rfl, _, rfl, c, ys, i, ys[i], rfl, by rw [ei], sqT_keep h2 (fun o e => k2 _ o e), atI_nat hy, ?_⟩
          exact ⟨_, _, rfl, (hs i _ _ hx hy).ext k2, fun H3 k3 => ⟨true, rfl, iteF ⟨_, rfl, k2.trans k3⟩⟩⟩
        · rintro σ H2 ⟨u, rfl, k2⟩
          exact q H2 k2
  intro n
  induction n with
  | zero => exact body 0 fun m' e => by omega
  | succ n ih => exact body (n + 1) fun m' e => by cases e; exact ih
end
end Pd

set_option maxHeartbeats 4000000
namespace Pd
open PySem PySem.Spec PyProof.Rows L2 SX
/-! ### the class Doors -/
def dflds (o1 o2 o3 o4 : Addr) : List (Str × V) := [("_put", .ref o1), ("_find", .ref o2), ("_strike", .ref o3), ("_wish", .ref o4)]
/-- doors at d, of four foldings -/
structure DrAt (K : PySem.W.Frag) (C CD : Addr) (H : Hp) (d : Addr) (o1 o2 o3 o4 r1 r2 r3 r4 : Addr) (s1 s2 s3 s4 : List Stp) : Prop where
  ins : ∃ dx, H d = some (.ins CD dx (dflds o1 o2 o3 o4))
  f1 : FoldAt K C H o1 r1 s1
  f2 : FoldAt K C H o2 r2 s2
  f3 : FoldAt K C H o3 r3 s3
  f4 : FoldAt K C H o4 r4 s4
section
variable {K : PySem.W.Frag} {C CD : Addr} {H H' : Hp} {d o1 o2 o3 o4 r1 r2 r3 r4 : Addr} {s1 s2 s3 s4 : List Stp}
theorem DrAt.ext (h : DrAt K C CD H d o1 o2 o3 o4 r1 r2 r3 r4 s1 s2 s3 s4) (k : Ext H H') : DrAt K C CD H' d o1 o2 o3 o4 r1 r2 r3 r4 s1 s2 s3 s4 := by
  obtain ⟨dx, e⟩ := h.ins
  exact ⟨⟨dx, k d _ e⟩, h.f1.ext k, h.f2.ext k, h.f3.ext k, h.f4.ext k⟩
theorem DrAt.kp {j : Addr} {xs : List V} (h : DrAt K C CD H d o1 o2 o3 o4 r1 r2 r3 r4 s1 s2 s3 s4) (k : Kp j H H') (hj : H j = some (.lst xs)) : DrAt K C CD H' d o1 o2 o3 o4 r1 r2 r3 r4 s1 s2 s3 s4 := by
  obtain ⟨dx, e⟩ := h.ins
  exact ⟨⟨dx, k d _ (by rintro rfl; rw [e] at hj; cases hj) e⟩, h.f1.kp k hj, h.f2.kp k hj, h.f3.kp k hj, h.f4.kp k hj⟩
end
structure Dcl (K : PySem.W.Frag) (mg : Str → Option Value) (CD : Addr) : Prop where
  cl : Cls K CD
  n1 : NoAttr K CD "_put"
  n2 : NoAttr K CD "_find"
  n3 : NoAttr K CD "_strike"
  n4 : NoAttr K CD "_wish"
  mgC : mg "Doors" = some (.ref CD)
def spDInit (CD : Addr) : Sp := fun vs H Q _ => ∃ (d dx o1 o2 o3 o4 : Addr), vs = [.ref d, .ref o1, .ref o2, .ref o3, .ref o4] ∧ H d = some (.ins CD dx []) ∧ Q .non (upd H d (.ins CD dx (dflds o1 o2 o3 o4)))
/-- a method that tells a field -/
def spDGet (CD : Addr) (f : Str) : Sp := fun vs H Q _ => ∃ (d dx : Addr) (fs : List (Str × V)) (v : V), vs = [.ref d] ∧ H d = some (.ins CD dx fs) ∧ fs.lookup f = some v ∧ Q v H
theorem upd_upd {H : Hp} {a : Addr} {o u : HO} : L2.upd (L2.upd H a o) a u = L2.upd H a u := by
  funext b
  by_cases h : b = a
  · subst h; rw [upd_same, upd_same]
  · rw [upd_ne h, upd_ne h, upd_ne h]
section
variable {P : Program} {w : World} {K : PySem.W.Frag} {mg : Str → Option Value} {base : Heap}
theorem ok_dinit {f CD : Addr} {fd : FuncData} (F : Fun K "__init__" "Doors.__init__" sDoorsInit f fd) (Z : Dcl K mg CD) : FnOk P w K mg base CX0 1 f fd ["self", "put", "find", "strike", "wish"] (spDInit CD) := by
  refine F.ok scDoorsInit (fun vs H Q E h => ?_) (fun cdv A outer s H vs Q E hr h => ?_)
  · obtain ⟨d, dx, o1, o2, o3, o4, rfl, _⟩ := h
    rfl
  · obtain ⟨d, dx, o1, o2, o3, o4, rfl, e, q⟩ := h
    refine ⟨_, pss_cons (ps_fld (pv 0) (pv 1) rfl) (pss_cons (ps_fld (pv 0) (pv 2) rfl) (pss_cons (ps_fld (pv 0) (pv 3) rfl) (pss_one (ps_fld (pv 0) (pv 4) rfl)))), ?_⟩
    refine ⟨_, rfl, _, rfl, d, CD, dx, _, rfl, e, Z.cl, Z.n1, by show 0 < 1000; decide, ?_⟩
    refine ⟨_, rfl, _, rfl, d, CD, dx, _, rfl, upd_same, Z.cl, Z.n2, by show 1 < 1000; decide, ?_⟩
    refine ⟨_, rfl, _, rfl, d, CD, dx, _, rfl, upd_same, Z.cl, Z.n3, by show 2 < 1000; decide, ?_⟩
    refine ⟨_, rfl, _, rfl, d, CD, dx, _, rfl, upd_same, Z.cl, Z.n4, by show 3 < 1000; decide, ?_⟩
    rw [upd_upd, upd_upd, upd_upd]
    exact q
theorem ok_dput {f CD : Addr} {fd : FuncData} (F : Fun K "put" "Doors.put" sDoorsPut f fd) (Z : Dcl K mg CD) : FnOk P w K mg base CX0 1 f fd ["self"] (spDGet CD "_put") := by
  refine F.ok scDoorsPut (fun vs H Q E h => ?_) (fun cdv A outer s H vs Q E hr h => ?_)
  · obtain ⟨d, dx, fs, v, rfl, _⟩ := h
    rfl
  · obtain ⟨d, dx, fs, v, rfl, e, l, q⟩ := h
    exact ⟨_, pss_one (ps_ret (pe_fld (pv 0) rfl)), _, rfl, d, CD, dx, _, _, rfl, e, Z.cl, Z.n1, l, q⟩
theorem ok_dfind {f CD : Addr} {fd : FuncData} (F : Fun K "find" "Doors.find" sDoorsFind f fd) (Z : Dcl K mg CD) : FnOk P w K mg base CX0 1 f fd ["self"] (spDGet CD "_find") := by
  refine F.ok scDoorsFind (fun vs H Q E h => ?_) (fun cdv A outer s H vs Q E hr h => ?_)
  · obtain ⟨d, dx, fs, v, rfl, _⟩ := h
    rfl
  · obtain ⟨d, dx, fs, v, rfl, e, l, q⟩ := h
    exact ⟨_, pss_one (ps_ret (pe_fld (pv 0) rfl)), _, rfl, d, CD, dx, _, _, rfl, e, Z.cl, Z.n2, l, q⟩
theorem ok_dstrike {f CD : Addr} {fd : FuncData} (F : Fun K "strike" "Doors.strike" sDoorsStrike f fd) (Z : Dcl K mg CD) : FnOk P w K mg base CX0 1 f fd ["self"] (spDGet CD "_strike") := by
  refine F.ok scDoorsStrike (fun vs H Q E h => ?_) (fun cdv A outer s H vs Q E hr h => ?_)
  · obtain ⟨d, dx, fs, v, rfl, _⟩ := h
    rfl
  · obtain ⟨d, dx, fs, v, rfl, e, l, q⟩ := h
    exact ⟨_, pss_one (ps_ret (pe_fld (pv 0) rfl)), _, rfl, d, CD, dx, _, _, rfl, e, Z.cl, Z.n3, l, q⟩
theorem ok_dwish {f CD : Addr} {fd : FuncData} (F : Fun K "wish" "Doors.wish" sDoorsWish f fd) (Z : Dcl K mg CD) : FnOk P w K mg base CX0 1 f fd ["self"] (spDGet CD "_wish") := by
  refine F.ok scDoorsWish (fun vs H Q E h => ?_) (fun cdv A outer s H vs Q E hr h => ?_)
  · obtain ⟨d, dx, fs, v, rfl, _⟩ := h
    rfl
  · obtain ⟨d, dx, fs, v, rfl, e, l, q⟩ := h
    exact ⟨_, pss_one (ps_ret (pe_fld (pv 0) rfl)), _, rfl, d, CD, dx, _, _, rfl, e, Z.cl, Z.n4, l, q⟩
end
/-- the class Doors: made by position; its four methods -/
structure Drs (P : Program) (w : World) (K : PySem.W.Frag) (mg : Str → Option Value) (base : Heap) (CD : Addr) : Prop where
  z : Dcl K mg CD
  made : ∃ (f : Addr) (fd : FuncData), Mk K CD f ∧ FnOk P w K mg base CX0 1 f fd ["self", "put", "find", "strike", "wish"] (spDInit CD) ∧ Binds K fd ["self", "put", "find", "strike", "wish"] []
  put : ∃ (g : Addr) (fd : FuncData), Meth K CD "put" g ∧ FnOk P w K mg base CX0 1 g fd ["self"] (spDGet CD "_put") ∧ Binds K fd ["self"] []
  find : ∃ (g : Addr) (fd : FuncData), Meth K CD "find" g ∧ FnOk P w K mg base CX0 1 g fd ["self"] (spDGet CD "_find") ∧ Binds K fd ["self"] []
  strike : ∃ (g : Addr) (fd : FuncData), Meth K CD "strike" g ∧ FnOk P w K mg base CX0 1 g fd ["self"] (spDGet CD "_strike") ∧ Binds K fd ["self"] []
  wish : ∃ (g : Addr) (fd : FuncData), Meth K CD "wish" g ∧ FnOk P w K mg base CX0 1 g fd ["self"] (spDGet CD "_wish") ∧ Binds K fd ["self"] []
/-- doors made of four foldings: what __init__ asks -/
theorem dmade_ask {K : PySem.W.Frag} {C CD : Addr} {H : Hp} {x dx o1 o2 o3 o4 r1 r2 r3 r4 : Addr} {s1 s2 s3 s4 : List Stp} {Q : VK} {E : XK} (f1 : FoldAt K C H o1 r1 s1) (f2 : FoldAt K C H o2 r2 s2) (f3 : FoldAt K C H o3 r3 s3) (f4 : FoldAt K C H o4 r4 s4)
    (hx : H x = none) (hdx : H dx = none) (ne : dx ≠ x) (q : ∀ H', DrAt K C CD H' x o1 o2 o3 o4 r1 r2 r3 r4 s1 s2 s3 s4 → Ext H H' → Q .non H') :
    spDInit CD [.ref x, .ref o1, .ref o2, .ref o3, .ref o4] (upd (upd H dx (.own x)) x (.ins CD dx [])) Q E := by
  have k : Ext H (upd (upd (upd H dx (.own x)) x (.ins CD dx [])) x (.ins CD dx (dflds o1 o2 o3 o4))) := fun b u e => by
    rw [upd_ne (ne_of_none e hx), upd_ne (ne_of_none e hx), upd_ne (ne_of_none e hdx)]; exact e
  exact ⟨x, dx, o1, o2, o3, o4, rfl, upd_same, q _ ⟨⟨dx, upd_same⟩, f1.ext k, f2.ext k, f3.ext k, f4.ext k⟩ k⟩
end Pd

set_option maxHeartbeats 4000000
namespace Pd
open PySem PySem.Spec PyProof.Rows L2 SX
/-- four rows, in a list of their own -/
def Four (K : PySem.W.Frag) (H : Hp) (l : Addr) (rs : List Addr) (rws : List (List Stp)) : Prop := H l = some (.lst (rs.map V.ref)) ∧ Rw K H rs rws ∧ rws.length = 4
def spBdoors (K : PySem.W.Frag) : Sp := fun vs H Q _ => ∃ (j : Addr) (n : Nat) (l : List Nat), vs = [.ref j, .str (S l)] ∧ JarAt H j n ∧ PoolOk l ∧ n + 3000 < 1000000 ∧
  ∀ p rs rws H', H p = none → Four K H' p rs rws → JarAt H' j (n + 3000) → Kp j H H' → Q (.ref p) H'
theorem row_drop' {K : PySem.W.Frag} {σ : L2.St} {H : Hp} {r : Addr} {sts : List Stp} {k : Int} {Q : VK} (hR : RowAt K H r sts) (h0 : 0 ≤ k) (q : ∀ r' H', Ext H H' → RowAt K H' r' (sts.drop k.toNat) → Q (.ref r') H') : tNoPart σ H fun u H3 => rSlA K (.ref r) (some k) u H3 Q := row_drop hR h0 q
theorem RowAt.ok {K : PySem.W.Frag} {H : Hp} {r : Addr} {sts : List Stp} (h : RowAt K H r sts) : ∀ st ∈ sts, st.ok := by
  obtain ⟨ps, _, al⟩ := h
  exact al.ok
section
variable {P : Program} {w : World} {K : PySem.W.Frag} {mg : Str → Option Value} {base : Heap}
theorem ok_bdoors {f : Addr} {fd : FuncData} (F : Fun K "_law_doors" "_law_doors" sLawDoors f fd) (T : Nms mg) (D : Cl P w K mg base 1 "_law_draw" spDraw) (G : Cl P w K mg base 3 "_law_step" spBstep) (G2 : Cl P w K mg base 4 "_law_steps" (spBrow K)) : FnOk P w K mg base CX0 5 f fd ["well", "pool"] (spBdoors K) := by
  refine F.ok scLawDoors (fun vs H Q E h => ?_) (fun cdv A outer s H vs Q E hr h => ?_)
  · obtain ⟨j, n, l, rfl, _⟩ := h
    rfl
  · obtain ⟨j, n, l, rfl, hJ, hG, hn, q⟩ := h
    have nd := scLawDoors.nd
    refine ⟨_, pss_cons (ps_par (i := 2) (j := 3) rfl nd rfl rfl (by decide) rfl rfl (pa_cons (pe_cl G2 hr (by decide) rfl (pa_cons (pv 0) (pa_cons (pv 1) pa_nil))) (pa_cons (pe_lst pa_nil) pa_nil)) (by rfl))
      (pss_cons (ps_for PassesOwn.never rfl (pi_range1 rfl T.range (pa_cons pe_int pa_nil)) (pg_name (i := 4) nd rfl (Or.inl rfl))
        (pss_cons (ps_par (i := 5) (j := 6) rfl nd rfl rfl (by decide) rfl rfl (pa_cons (pe_cl D hr (by decide) rfl (pa_cons (pv 0) (pa_cons pe_int pa_nil))) (pa_cons (pe_cl D hr (by decide) rfl (pa_cons (pv 0) (pa_cons (pe_op op_add (pe_callB call_len_seq (by rfl) T.len PySem.boot_len (pa_cons (pv 2) pa_nil)) pe_int) pa_nil))) pa_nil)) (by rfl))
        (pss_cons (ps_set (i := 7) nd rfl (Or.inl rfl) (pv 2))
        (C8.pss_cut (ps_if (pt_cmpR op_eq (pv 5) pe_int (nomark _))
            (pss_one (ps_set (i := 7) nd rfl (Or.inl rfl) (pe_op op_catA (pe_slice sl_tupA (pv 2) po_none (po_some (pv 6))) (pe_slice sl_tupA (pv 2) (po_some (pe_op op_add (pv 6) pe_int)) po_none))))
            (pss_one (ps_if (PW.pt (pw_and (pt_cmpR op_eq (pv 5) pe_int (nomark _)) (pw_and1 (pt_cmpR op_lt (pe_callB call_len_seq (by rfl) T.len PySem.boot_len (pa_cons (pv 2) pa_nil)) pe_int (nomark _)))))
              (pss_one (ps_set (i := 7) nd rfl (Or.inl rfl) (pe_op op_catA (pe_op op_catA (pe_slice sl_tupA (pv 2) po_none (po_some (pv 6))) (pe_tup (pa_cons (pe_cl G hr (by decide) rfl (pa_cons (pv 0) (pa_cons (pv 1) pa_nil))) pa_nil))) (pe_slice sl_tupA (pv 2) (po_some (pv 6)) po_none))))
              (pss_one (ps_if (pt_cmpR op_eq (pv 5) pe_int (nomark _)) (pss_one (ps_set (i := 7) nd rfl (Or.inl rfl) (pe_cl G2 hr (by decide) rfl (pa_cons (pv 0) (pa_cons (pv 1) pa_nil))))) pss_nil)))))
        (pss_one (ps_expr (pe_bm PySem.F.plainAttrs_list PySem.F.slot_list_append PySem.F.type_list_append mt_append (pv 3) (pa_cons (pv 7) pa_nil))))))))
      (pss_one (ps_ret (pv 3)))), ?_⟩
    obtain ⟨xs0, hx0⟩ := hJ.lst
    refine ⟨_, rfl, _, rfl, j, n, l, rfl, hJ, hG, by omega, fun r sts H1 nr h6 R1 J1 k1 => ⟨by show 0 ≤ sizeLine; decide, fun p hp => ⟨_, _, rfl, ?_⟩⟩⟩
    have kp1 : Kp j H (L2.upd H1 p (.lst [])) := k1.new hp
    have Rp := R1.ext (Ext.refl.new (o := .lst []) hp)
    have np : H p = none := k1.none hp ⟨_, hx0⟩ J1.lst
    obtain ⟨xs1, hx1⟩ := J1.lst
    have npj : p ≠ j := by rintro rfl; rw [hx1] at hp; cases hp
    refine ⟨4, rfl, by decide, by decide, ?_⟩
    refine for_range (lo := 0) (n := 4) (fun i σ H' => ∃ u4 u5 u6 u7 rs rws, σ = [some (.ref j), some (.str (S l)), some (.ref r), some (.ref p), u4, u5, u6, u7] ∧ H' p = some (.lst (rs.map V.ref)) ∧ Rw K H' rs rws ∧ rws.length = i ∧ RowAt K H' r sts ∧ JarAt H' j (n + 400 + 500 * i) ∧ Kp j H H')
      ⟨_, _, _, _, [], [], rfl, upd_same, .nil, rfl, Rp, J1.new hp, kp1⟩ ?_ ?_
    · rintro i σ H2 hi ⟨u4, u5, u6, u7, rs, rws, rfl, hp2, W2, hl2, R2, J2, k2⟩
      refine ⟨_, rfl, j, 7, _, rfl, J2, by omega, by decide, by decide, fun way H3 hw0 hw1 J3 k3 => ?_⟩
      obtain ⟨xs2, hx2⟩ := J2.lst
      have R3 := R2.kp k3 hx2
      obtain ⟨ps3, hq3, al3⟩ := id R3
      refine ⟨_, rfl, _, rfl, r, _, rfl, .inr hq3, _, _, rfl, rfl, j, _, _, rfl, J3, by omega, ?_, ?_, fun k H4 hk0 hk1 J4 k4 => ?_⟩
      · rw [List.length_map, al3.len]; omega
      · rw [List.length_map, al3.len]; omega
      obtain ⟨xs3, hx3⟩ := J3.lst
      obtain ⟨xs4, hx4⟩ := J4.lst
      have k34 := k3.trans k4
      have R4 := R3.kp k4 hx3
      have W4 := W2.kp hx2 k34
      have hp4 := k34 p _ npj hp2
      have k24 := k2.trans k34
      refine ⟨_, _, rfl, ?_⟩
      refine ⟨_, rfl, ?_⟩
      refine ⟨fun σ' H' => ∃ r' sts', σ' = [some (.ref j), some (.str (S l)), some (.ref r), some (.ref p), some (.int (0 + (i : Nat))), some (.int way), some (.int k), some (.ref r')] ∧ sts'.length ≤ 6 ∧ RowAt K H' r' sts' ∧ H' p = some (.lst (rs.map V.ref)) ∧ Rw K H' rs rws ∧ RowAt K H' r sts ∧ JarAt H' j (n + 400 + 500 * i + 500) ∧ Kp j H H', ?_, ?_⟩
      · refine ⟨_, rfl, rfl, _, rfl, ite2 (fun _ => ?_) (fun _ => ?_)⟩
        · refine ⟨_, rfl, _, rfl, k, rfl, row_take R4 hk0 fun r1 H5 k5 R5 => ?_⟩
          refine ⟨_, rfl, _, rfl, _, _, rfl, rfl, _, rfl, ?_⟩
          refine row_drop' (K := K) (R4.ext k5) (by omega) fun r2 H6 k6 R6 => ?_
          refine row_cat (R5.ext k6) R6 (by rw [List.length_take, List.length_drop]; omega) fun r3 H7 k7 R7 => ?_
          have k57 := (k5.trans k6).trans k7
          exact ⟨r3, _, rfl, by rw [List.length_append, List.length_take, List.length_drop]; omega, R7, k57 p _ hp4, W4.ext k57, R4.ext k57, (J4.ext k57).le (by omega), k24.trans k57.kp⟩
        · have fin : ∃ r' sts', ([some (.ref j), some (.str (S l)), some (.ref r), some (.ref p), some (.int (0 + (i : Nat))), some (.int way), some (.int k), some (.ref r)] : L2.St) = [some (.ref j), some (.str (S l)), some (.ref r), some (.ref p), some (.int (0 + (i : Nat))), some (.int way), some (.int k), some (.ref r')] ∧ sts'.length ≤ 6 ∧ RowAt K H4 r' sts' ∧ H4 p = some (.lst (rs.map V.ref)) ∧ Rw K H4 rs rws ∧ RowAt K H4 r sts ∧ JarAt H4 j (n + 400 + 500 * i + 500) ∧ Kp j H H4 :=
            ⟨r, sts, rfl, h6, R4, hp4, W4, R4, J4.le (by omega), k24⟩
          have six : way = 6 → _ := fun _ => trivial
          refine ⟨_, rfl, rfl, _, rfl, ?_⟩
          by_cases h5 : V.int way = V.int 5
          · rw [decide_eq_true h5]
            obtain ⟨ps4, hq4, al4⟩ := id R4
            refine iteT ⟨_, rfl, r, _, rfl, .inr hq4, _, _, rfl, rfl, _, rfl, ?_⟩
            rw [List.length_map, al4.len]
            by_cases hl6 : sts.length < 6
            · rw [decide_eq_true (show ((sts.length : Nat) : Int) < 6 by omega)]
              refine iteT ⟨_, rfl, _, rfl, k, rfl, row_take R4 hk0 fun r1 H5 k5 R5 => ?_⟩
              refine ⟨_, rfl, _, rfl, j, _, l, rfl, J4.ext k5, hG, by omega, fun s st H6 ns hok hst J6 k6 => ?_⟩
              refine ⟨by show 1 ≤ sizeLine; decide, fun t ht => ?_⟩
              have hx5 : H5 j = some (.lst xs4) := k5 j _ hx4
              have kt : Ext H6 (L2.upd H6 t (.tup [.ref s])) := Ext.refl.new ht
              have R7 : RowAt K (L2.upd H6 t (.tup [.ref s])) t [st] := ⟨[s], SqT.of upd_same, .cons (hst.ext kt) hok .nil⟩
              refine row_cat ((R5.kp k6 hx5).ext kt) R7 (by rw [List.length_take]; show _ + 1 ≤ 1000; omega) fun r3 H7 k7 R7' => ?_
              have R4' : RowAt K H7 r sts := (((R4.ext k5).kp k6 hx5).ext kt).ext k7
              refine ⟨_, rfl, _, rfl, k, rfl, ?_⟩
              refine row_drop' (K := K) R4' hk0 fun r4 H8 k8 R8 => ?_
              refine row_cat (R7'.ext k8) R8 (by rw [List.length_append, List.length_take, List.length_drop]; show _ + 1 + _ ≤ 1000; omega) fun r5 H9 k9 R9 => ?_
              have kk : Ext H6 H9 := (((kt.trans k7).trans k8).trans k9)
              refine ⟨r5, _, rfl, ?_, R9, kk p _ (k6 p _ npj (k5 p _ hp4)), (((W4.ext k5).kp hx5 k6).ext kk), (R4'.ext k8).ext k9, (J6.ext kk).le (by omega), ((k24.trans k5.kp).trans k6).trans kk.kp⟩
              rw [List.length_append, List.length_append, List.length_take, List.length_drop]
              show _ + 1 + _ ≤ 6
              omega
            · rw [decide_eq_false (show ¬ ((sts.length : Nat) : Int) < 6 by omega)]
              refine iteF ⟨_, rfl, rfl, _, rfl, ite2 (fun e => ?_) (fun _ => fin)⟩
              have e := of_decide_eq_true e
              rw [h5] at e
              exact absurd e (by decide +kernel)
          · rw [decide_eq_false h5]
            refine iteF (iteF ⟨_, rfl, rfl, _, rfl, ite2 (fun _ => ?_) (fun _ => fin)⟩)
            refine ⟨_, rfl, _, rfl, j, _, l, rfl, J4, hG, by omega, fun r5 sts5 H5 nr5 h65 R5 J5 k5 => ?_⟩
            exact ⟨r5, sts5, rfl, h65, R5, k5 p _ npj hp4, W4.kp hx4 k5, R4.kp k5 hx4, J5.le (by omega), k24.trans k5⟩
      · rintro σ' H5 ⟨r', sts', rfl, h6', R5, hp5, W5, Rr5, J5, k5⟩
        refine ⟨_, rfl, .inl ⟨rfl, _, SqL.of hp5⟩, _, rfl, p, _, _, rfl, rfl, hp5, by rw [List.length_map, W5.len, hl2, sizeLine_eq]; omega, ?_⟩
        have kq : Kp p H5 (L2.upd H5 p (.lst (rs.map V.ref ++ [.ref r']))) := .upd
        refine ⟨_, _, _, _, rs ++ [r'], rws ++ [sts'], rfl, ?_, Rw.snoc (R5.kp kq hp5) h6' (W5.kp hp5 kq), by rw [List.length_append, hl2]; rfl, Rr5.kp kq hp5, ?_, ?_⟩
        · rw [upd_same, List.map_append]; rfl
        · obtain ⟨a', b', c', e1, e2⟩ := J5.le (show n + 400 + 500 * i + 500 ≤ n + 400 + 500 * (i + 1) by omega)
          exact ⟨a', b', c', by rw [upd_ne npj.symm]; exact e1, e2⟩
        · intro b o nb hb
          have nbp : b ≠ p := by rintro rfl; rw [np] at hb; cases hb
          rw [upd_ne nbp]; exact k5 b o nb hb
    · rintro σ H2 ⟨u4, u5, u6, u7, rs, rws, rfl, hp2, W2, hl2, R2, J2, k2⟩
      exact ⟨_, rfl, q p rs rws H2 np ⟨hp2, W2, hl2⟩ (J2.le (by omega)) k2⟩
end
end Pd

set_option maxHeartbeats 4000000
namespace Pd
open PySem PySem.Spec PyProof.Rows L2 SX
/-! ### return (e1, e2): a pair of texts, the token of the second is told if wanted -/
def pairO (a : Str) (t0 : Tok) (c : Str) (t : Tok) (m : Nat) : Obj := { cls := .type "tuple", data := .seq #[.str a t0, .str c t] m }
def tPairT (t1 t2 : TE) : TSB := fun D b σ H => t1 σ H fun x H1 => t2 σ H1 fun y H2 => ∃ a c : Str, x = .str a ∧ y = .str c ∧ ∀ p, H2 p = none →
  ((∀ b' m t0 t, b ≤ b' → t ≠ 0 → t < b' → D.rt b' (.ref p) (L2.upd H2 p (.frz (pairO a t0 c t m) (.tup [.str a, .str c])))) ∨ D.rt b (.ref p) (L2.upd H2 p (.tup [.str a, .str c])))
theorem psb_retPair {X : Cx} {e1 e2 : Expr} {t1 t2 : TE} {k : Nat} {p q : Pos} (h1 : PE X e1 t1) (h2 : PEF X e2 t2)
    (hst : starEach [e1, e2] X.env = [(false, eval e1 X.env), (false, eval e2 X.env)] := by rfl) :
    PSB X (.Return (some (.Tuple [e1, e2] k p)) q) (tPairT t1 t2) := by
  constructor
  intro pins s σ H D b l I h
  refine wpAny_Return_some (Tuple_ ?_)
  rw [hst]
  show wpAny _ _ (spliced ((false, eval e1 X.env) :: [(false, eval e2 X.env)])) _ _ _
  refine Calls.spliced_cons (thk l (h1.run pins _ σ H _ I h) ?_)
  rintro u1 s1 l1 ⟨x, H1, I1, r1, h'⟩
  refine Calls.spliced_cons (thk l1 (h2.run pins s1 σ H1 _ I1 h') ?_)
  rintro u2 s2 l2 ⟨⟨y, H2, I2, r2, a, c, rfl, rfl, fin⟩, m1, z2, k2, rfl, m3, m4⟩
  obtain ⟨k1, rfl⟩ := r1
  obtain rfl : z2 = c := by obtain ⟨_, e⟩ := r2; injection e
  refine Calls.spliced_nil (wpAny_newTuple ?_ (by show 2 ≤ sizeLine; decide))
  have new : H2 s2.heap.objs.size = none := I2.hok.fresh (Nat.le_refl _)
  rcases fin _ new with fin | fin
  · refine ⟨s2.toks, Nat.le_refl _, .ref s2.heap.objs.size, σ, upd H2 s2.heap.objs.size (.frz (pairO a k1 z2 k2 0) (.tup [.str a, .str z2])), ?_, rfl, fin s2.toks 0 k1 k2 l2 (Nat.ne_of_gt (Nat.lt_of_lt_of_le (Nat.succ_pos _) m3)) m4⟩
    exact I2.laid (t' := s2.toks) (fun b o q => Heap.get?_push_of_some _ q) (Nat.le_refl _) ⟨Heap.get?_push_size _ rfl, by show 2 ≤ sizeLine; decide, [.str a k1, .str z2 k2], .cons ⟨_, rfl⟩ (.cons ⟨_, rfl⟩ .nil), ⟨_, Heap.get?_push_size _ rfl, rfl, _, rfl⟩⟩
  · refine ⟨b, l2, .ref s2.heap.objs.size, σ, upd H2 s2.heap.objs.size (.tup [.str a, .str z2]), ?_, rfl, fin⟩
    exact I2.laid (t' := s2.toks) (fun b o q => Heap.get?_push_of_some _ q) (Nat.le_refl _) ⟨by show 2 ≤ sizeLine; decide, [.str a k1, .str z2 k2], .cons ⟨_, rfl⟩ (.cons ⟨_, rfl⟩ .nil), ⟨_, Heap.get?_push_size _ rfl, rfl, _, rfl⟩⟩
/-! ### more is known of tokens -/
theorem StpB.mono {b b' : Nat} {H : Hp} {p : Addr} {st : Stp} (h : StpB b H p st) (l : b ≤ b') : StpB b' H p st := ⟨h.1, fun a e => by
  obtain ⟨n, t0, t, x, y, z⟩ := h.2 a e
  exact ⟨n, t0, t, x, y, Nat.lt_of_lt_of_le z l⟩⟩
theorem AlB.mono {b b' : Nat} {H : Hp} (l : b ≤ b') : ∀ {ps : List Addr} {sts : List Stp}, AlB b H ps sts → AlB b' H ps sts
  | _, _, .nil => .nil
  | _, _, .cons h o r => .cons (h.mono l) o (r.mono l)
theorem RowB.mono {K : PySem.W.Frag} {b b' : Nat} {H : Hp} {r : Addr} {sts : List Stp} (h : RowB K b H r sts) (l : b ≤ b') : RowB K b' H r sts := by
  obtain ⟨ps, e, a⟩ := h
  exact ⟨ps, e, a.mono l⟩
theorem RwB.mono {K : PySem.W.Frag} {b b' : Nat} {H : Hp} (l : b ≤ b') : ∀ {rs : List Addr} {rws : List (List Stp)}, RwB K b H rs rws → RwB K b' H rs rws
  | _, _, .nil => .nil
  | _, _, .cons h o r => .cons (h.mono l) o (r.mono l)
theorem AlB.snoc {b : Nat} {H : Hp} {p : Addr} {st : Stp} (hp : StpB b H p st) (ok : st.ok) : ∀ {ps : List Addr} {sts : List Stp}, AlB b H ps sts → AlB b H (ps ++ [p]) (sts ++ [st])
  | _, _, .nil => .cons hp ok .nil
  | _, _, .cons h o r => .cons h o (r.snoc hp ok)
def FourB (K : PySem.W.Frag) (b : Nat) (H : Hp) (l : Addr) (rs : List Addr) (rws : List (List Stp)) : Prop := H l = some (.lst (rs.map V.ref)) ∧ RwB K b H rs rws ∧ rws.length = 4
def spUstep : SpU := fun vs H Q => ∃ (j : Addr) (n : Nat) (l : List Nat), vs = [.ref j, .str (S l)] ∧ JarAt H j n ∧ PoolOk l ∧ n + 50 < 1000000 ∧
  ∀ b p st H', H p = none → st.ok → StpB b H' p st → JarAt H' j (n + 50) → Kp j H H' → Q b (.ref p) H'
def spUrow (K : PySem.W.Frag) : SpU := fun vs H Q => ∃ (j : Addr) (n : Nat) (l : List Nat), vs = [.ref j, .str (S l)] ∧ JarAt H j n ∧ PoolOk l ∧ n + 400 < 1000000 ∧
  ∀ b r sts H', H r = none → sts.length ≤ 6 → RowB K b H' r sts → JarAt H' j (n + 400) → Kp j H H' → Q b (.ref r) H'
def spUdoors (K : PySem.W.Frag) : SpU := fun vs H Q => ∃ (j : Addr) (n : Nat) (l : List Nat), vs = [.ref j, .str (S l)] ∧ JarAt H j n ∧ PoolOk l ∧ n + 3000 < 1000000 ∧
  ∀ b p rs rws H', H p = none → FourB K b H' p rs rws → JarAt H' j (n + 3000) → Kp j H H' → Q b (.ref p) H'
section
variable {P : Program} {w : World} {K : PySem.W.Frag} {mg : Str → Option Value} {base : Heap}
theorem ok_ustep {f : Addr} {fd : FuncData} (F : Fun K "_law_step" "_law_step" sLawStep f fd) (T : Nms mg) (D : Cl P w K mg base 1 "_law_draw" spDraw) (G : ClT P w K mg base 2 "_law_character" spCharacter) : FnU P w K mg base 3 f spUstep := by
  refine fnU_ofB F scLawStep (fun kV doc pm an cdv ct us hl => match us, hl with | [_, _], _ => rfl) (fun vs H Q h => ?_) (fun cdv A outer s H vs Q E hr h => ?_)
  · obtain ⟨j, n, l, rfl, _⟩ := h
    rfl
  · obtain ⟨j, n, l, rfl, hJ, hG, hn, q⟩ := h
    have nd := scLawStep.nd
    refine ⟨_, PSsB.nox (pssb_cons (psb0 (ps_set (i := 2) nd rfl (Or.inl rfl) (pe_cl D hr (by decide) rfl (pa_cons (pv 0) (pa_cons pe_int pa_nil)))))
      (pssb_cons (psb0 (ps_if (pt_cmpR op_eq (pv 2) pe_int (nomark _)) (pss_one (ps_ret (pe_tup (pa_cons pe_str pa_nil)))) pss_nil))
      (pssb_cons (psb0 (ps_if (pt_cmpR op_eq (pv 2) pe_int (nomark _)) (pss_one (ps_retSwap (pef_cl G hr (by decide) rfl (pa_cons (pv 0) (pa_cons (pv 1) pa_nil))) (pef_cl G hr (by decide) rfl (pa_cons (pv 0) (pa_cons (pv 1) pa_nil))))) pss_nil))
      (pssb_cons (psb0 (ps_if (pt_cmpR op_eq (pv 2) pe_int (nomark _))
        (pss_cons (ps_set (i := 3) nd rfl (Or.inl rfl) pe_str)
        (pss_cons (ps_for PassesOwn.never rfl (pi_range1 rfl T.range (pa_cons (pe_op op_add pe_int (pe_cl D hr (by decide) rfl (pa_cons (pv 0) (pa_cons pe_int pa_nil)))) pa_nil)) (pg_name (i := 4) nd rfl (Or.inl rfl))
          (pss_cons (ps_set (i := 5) nd rfl (Or.inl rfl) (PEF.pe (pef_cl G hr (by decide) rfl (pa_cons (pv 0) (pa_cons (pv 1) pa_nil)))))
          (pss_one (ps_if (pt_cmpR op_notIn_sign (pv 5) (pv 3) rfl) (pss_one (ps_set (i := 3) nd rfl (Or.inl rfl) (pe_op op_add_str (pv 3) (pv 5)))) pss_nil))))
        (pss_one (ps_ret (pe_tup (pa_cons pe_str (pa_cons (pv 3) pa_nil))))))) pss_nil))
      (pssb_cons (psb_if (fun _ => ptn (pt_cmpR op_lt (pv 2) pe_int (nomark _))) (pssb_one (psb_retPair (pe_ix ix_list (pe_lst (pa_cons pe_str (pa_cons pe_str pa_nil))) (pe_op op_sub (pv 2) pe_int) (fun _ _ => rfl)) (pef_cl G hr (by decide) rfl (pa_cons (pv 0) (pa_cons (pv 1) pa_nil))))) pssb_nil)
      (pssb_one (psb0 (ps_ret (pe_tup (pa_cons pe_str (pa_cons (pe_op op_add pe_int (pe_cl D hr (by decide) rfl (pa_cons (pv 0) (pa_cons pe_int pa_nil)))) pa_nil)))))))))))
      , ?_⟩
    have hj0 := hJ.lst
    obtain ⟨xs0, hx0⟩ := id hj0
    refine ⟨_, rfl, j, 6, n, rfl, hJ, by omega, by decide, by decide, fun r H1 h0 h1 J1 k1 => ?_⟩
    have new : ∀ {H3 : Hp} {p : Addr} {o : HO}, Kp j H H3 → JarAt H3 j (n + 50) → H3 p = none → H p = none ∧ JarAt (L2.upd H3 p o) j (n + 50) ∧ Kp j H (L2.upd H3 p o) := fun {H3 p o} k J hp =>
      ⟨k.none hp hj0 J.lst, J.new hp, k.new hp⟩
    refine ⟨_, rfl, rfl, _, rfl, ite2 (fun _ => ?_) (fun e0 => ?_)⟩
    · refine ⟨by show 1 ≤ sizeLine; decide, fun p hp => ?_⟩
      obtain ⟨a1, a2, a3⟩ := new (o := .tup [V.str "lower"]) k1 (J1.le (by omega)) hp
      exact q _ p .low _ a1 trivial ⟨upd_same, fun _ z => nomatch z⟩ a2 a3
    refine ⟨_, rfl, rfl, _, rfl, ite2 (fun _ => ?_) (fun e1 => ?_)⟩
    · refine ⟨_, rfl, _, rfl, j, _, l, rfl, J1, hG, by omega, fun c H2 hc J2 k2 => ?_⟩
      refine ⟨_, rfl, _, rfl, j, _, l, rfl, J2, hG, by omega, fun d H3 hd J3 k3 => ?_⟩
      refine ⟨_, _, rfl, rfl, fun p H4 np sw hs4 => ?_⟩
      have k13 := (k1.trans k2).trans k3
      obtain ⟨xs3, hx3⟩ := J3.lst
      refine q _ p (.swap c d) H4 (k13.none np hj0 J3.lst) ⟨hc, hd⟩ ⟨sw, fun _ z => nomatch z⟩ ((J3.kp (hs4 j (ne_of_none hx3 np))).le (by omega)) fun b o hb hbo => ?_
      have b3 := k13 b o hb hbo
      exact (hs4 b (ne_of_none b3 np)).trans b3
    refine ⟨_, rfl, rfl, _, rfl, ite2 (fun _ => ?_) (fun e2 => ?_)⟩
    · refine ⟨_, rfl, j, 10, _, rfl, J1, by omega, by decide, by decide, fun r2 H2 h02 h12 J2 k2 => ⟨_, _, rfl, rfl, _, rfl, by omega, by omega, ?_⟩⟩
      refine for_range (lo := 0) (n := (1 + r2).toNat) (fun i σ H' => ∃ (cs : List Nat) (u v : Option V), σ = [some (.ref j), some (.str (S l)), some (.int r), some (.str (S cs)), u, v] ∧ (∀ c ∈ cs, c ∈ CH) ∧ cs.Nodup ∧ (0 < i → 1 ≤ cs.length) ∧ cs.length ≤ i ∧ JarAt H' j (n + 2 + 2 * i) ∧ Kp j H H')
        ⟨[], none, none, rfl, (fun _ h => nomatch h), List.nodup_nil, fun h => absurd h (by decide), Nat.le_refl _, J2, k1.trans k2⟩ ?_ ?_
      · rintro i σ H3 hi ⟨cs, u, v, rfl, hcs, hnd, hc1, hcl, J3, k3⟩
        refine ⟨_, rfl, _, rfl, j, _, l, rfl, J3, hG, by omega, fun d H4 hd J4 k4 => ?_⟩
        refine ⟨_, rfl, _, rfl, d, _, rfl, rfl, _, rfl, ?_⟩
        show if (!decide (d ∈ cs)) = true then _ else _
        by_cases hdl : d ∈ cs
        · rw [decide_eq_true hdl]
          exact iteF ⟨cs, _, _, rfl, hcs, hnd, fun _ => List.length_pos_of_mem hdl, by omega, J4.le (by omega), k3.trans k4⟩
        · rw [decide_eq_false hdl]
          refine iteT ⟨_, rfl, _, rfl, _, _, rfl, rfl, by rw [sg_S, S_len, S_len, sizeLine_eq]; simp; omega, ?_⟩
          rw [sg_S, S_cat]
          refine ⟨cs ++ [d], _, _, rfl, fun c hc => ?_, ?_, fun _ => by rw [List.length_append]; simp, by rw [List.length_append]; simp; omega, J4.le (by omega), k3.trans k4⟩
          · rcases List.mem_append.mp hc with h | h
            · exact hcs c h
            · rw [List.mem_singleton.mp h]; exact hd
          · rw [List.nodup_append]
            refine ⟨hnd, List.nodup_cons.mpr ⟨List.not_mem_nil, List.nodup_nil⟩, fun x hx y hy => ?_⟩
            rw [List.mem_singleton.mp hy]
            rintro rfl
            exact hdl hx
      · rintro σ H3 ⟨cs, u, v, rfl, hcs, hnd, hc1, hcl, J3, k3⟩
        refine ⟨_, rfl, by show 2 ≤ sizeLine; decide, fun p hp => ?_⟩
        obtain ⟨a1, a2, a3⟩ := new (o := .tup [V.str "drop", V.str (S cs)]) k3 (J3.le (by omega)) hp
        exact q _ p (.drop cs) _ a1 ⟨hc1 (by omega), by omega, hnd, hcs⟩ ⟨upd_same, fun _ z => nomatch z⟩ a2 a3
    have e0' : r ≠ 0 := fun e => e0 (decide_eq_true (congrArg V.int e))
    have e1' : r ≠ 1 := fun e => e1 (decide_eq_true (congrArg V.int e))
    have e2' : r ≠ 2 := fun e => e2 (decide_eq_true (congrArg V.int e))
    refine ⟨_, rfl, _, _, rfl, rfl, _, rfl, ite2 (fun h5 => ?_) (fun h5 => ?_)⟩
    · have h5 := of_decide_eq_true h5
      refine ⟨by show 2 ≤ sizeLine; decide, fun lx hlx => ?_⟩
      have na : (L2.upd H1 lx (.lst [V.str "lead", V.str "once"])) lx = some (.lst [V.str "lead", V.str "once"]) := upd_same
      have k2' : Kp j H (L2.upd H1 lx (.lst [V.str "lead", V.str "once"])) := k1.new hlx
      have J2' : JarAt (L2.upd H1 lx (.lst [V.str "lead", V.str "once"])) j (n + 1) := J1.new hlx
      obtain rfl | rfl : r = 3 ∨ r = 4 := by omega
      · refine ⟨_, rfl, _, _, rfl, rfl, lx, _, 0, V.str "lead", rfl, rfl, SqL.of na, rfl, _, rfl, _, rfl, j, _, l, rfl, J2', hG, by omega, fun c H3 hc J3 k3 => ⟨_, _, rfl, rfl, fun p hp => .inr ?_⟩⟩
        obtain ⟨a1, a2, a3⟩ := new (o := .tup [V.str "lead", V.str (sg c)]) (k2'.trans k3) (J3.le (by omega)) hp
        exact q _ p (.lead c) _ a1 hc ⟨upd_same, fun _ z => nomatch z⟩ a2 a3
      · refine ⟨_, rfl, _, _, rfl, rfl, lx, _, 1, V.str "once", rfl, rfl, SqL.of na, rfl, _, rfl, _, rfl, j, _, l, rfl, J2', hG, by omega, fun c H3 hc J3 k3 => ⟨_, _, rfl, rfl, fun p hp => .inl fun b' m t0 t lb nt lt => ?_⟩⟩
        obtain ⟨a1, a2, a3⟩ := new (o := .frz (pairO "once" t0 (sg c) t m) (.tup [V.str "once", V.str (sg c)])) (k2'.trans k3) (J3.le (by omega)) hp
        exact q _ p (.once c) _ a1 hc ⟨.inr ⟨_, upd_same⟩, fun a z => by cases z; exact ⟨m, t0, t, upd_same, nt, lt⟩⟩ a2 a3
    · refine ⟨_, rfl, j, 9, _, rfl, J1, by omega, by decide, by decide, fun r3 H3 h03 h13 J3 k3 => ⟨_, _, rfl, rfl, by show 2 ≤ sizeLine; decide, fun p hp => ?_⟩⟩
      obtain ⟨a1, a2, a3⟩ := new (o := .tup [V.str "cut", V.int (1 + r3)]) (k1.trans k3) (J3.le (by omega)) hp
      refine q _ p (.cut (1 + r3).toNat) _ a1 ⟨by omega, by omega⟩ ⟨?_, fun _ z => nomatch z⟩ a2 a3
      show (L2.upd H3 p _) p = some (.tup [V.str "cut", V.int (((1 + r3).toNat : Nat) : Int)])
      rw [show (((1 + r3).toNat : Nat) : Int) = 1 + r3 by omega]
      exact upd_same
end
end Pd

set_option maxHeartbeats 4000000
namespace Pd
open PySem PySem.Spec PyProof.Rows L2 SX
/-- a def that tells a bound of tokens, by its name -/
structure ClB (P : Program) (w : World) (K : PySem.W.Frag) (mg : Str → Option Value) (base : Heap) (k : Nat) (x : Str) (sp : SpU) : Prop where
  ex : ∃ (f : Addr), FnU P w K mg base k f sp ∧ mg x = some (.ref f) ∧ PySem.W.keepIn K (.ref f) = true
theorem peb_clB {X : Cx} {k j : Nat} {x : Str} {sp : SpU} {e : Expr} {es : List Expr} {t : TA} {p pos : Pos} (c : ClB X.prog X.w X.K X.mg X.base k x sp) (hr : Room j X.A) (hk : k ≤ j) (hg : Gl X x) (ha : PA X (e :: es) t)
    (hdb : (x == ("__debug__" : Str)) = false := by decide) (he : starEach (e :: es) X.env = (false, eval e X.env) :: starEach es X.env := by rfl) (hpl : (backTo pos (starEach es X.env)).any (·.1) = false := by rfl) :
    PEB X (.Call (.Name x p) (e :: es) [] pos) (tCallU sp t) := by
  obtain ⟨f, F, hm, kp⟩ := c.ex
  exact peb_callU F (hr.mono hk) hg hm kp ha hdb he hpl
section
variable {P : Program} {w : World} {K : PySem.W.Frag} {mg : Str → Option Value} {base : Heap}
theorem ok_urow {f : Addr} {fd : FuncData} (F : Fun K "_law_steps" "_law_steps" sLawSteps f fd) (T : Nms mg) (D : Cl P w K mg base 1 "_law_draw" spDraw) (G : ClB P w K mg base 3 "_law_step" spUstep) : FnU P w K mg base 4 f (spUrow K) := by
  refine fnU_ofB F scLawSteps (fun kV doc pm an cdv ct us hl => match us, hl with | [_, _], _ => rfl) (fun vs H Q h => ?_) (fun cdv A outer s H vs Q E hr h => ?_)
  · obtain ⟨j, n, l, rfl, _⟩ := h
    rfl
  · obtain ⟨j, n, l, rfl, hJ, hG, hn, q⟩ := h
    have nd := scLawSteps.nd
    refine ⟨_, PSsB.nox (pssb_one (psb_ret (peb_callTy call_tuple_of (by rfl) T.tuple (by decide +kernel) (pab_cons (peb_lc (own := [("turn", 2)]) (g := gName 2) (tt := tYes) rfl nd
      (pi_range1 rfl T.range (pa_cons (pe_cl D hr (by decide) rfl (pa_cons (pv 0) (pa_cons pe_int pa_nil))) pa_nil)) (blkOk_by (N := ["well", "pool", "turn"]) (sc := defScope sLawSteps) (by decide +kernel)) (fun _ _ _ _ _ => pg_name (i := 2) nd rfl (Or.inl rfl)) (fun _ _ _ _ _ => pts_nil)
      (fun _ _ _ _ _ => peb_clB G hr (by decide) rfl (pa_cons (pv 0) (pa_cons (pv 1) pa_nil)))) pab_nil)))), ?_⟩
    obtain ⟨xs0, hx0⟩ := hJ.lst
    refine ⟨_, rfl, j, 7, n, rfl, hJ, by omega, by decide, by decide, fun r H1 h0 h1 J1 k1 => ⟨_, rfl, by omega, by omega, fun D1 hD => ?_⟩⟩
    obtain ⟨xs1, hx1⟩ := J1.lst
    have nDj : D1 ≠ j := fun e => by rw [e, hx1] at hD; cases hD
    refine lcB_it (walk_range (lo := 0) (n := r.toNat)) (fun i b H' => ∃ (ps : List Addr) (sts : List Stp), H' D1 = some (.lst (ps.map V.ref)) ∧ AlB b H' ps sts ∧ sts.length = i ∧ JarAt H' j (n + 1 + 50 * i) ∧ Kp j H H')
      ⟨[], [], upd_same, .nil, rfl, J1.new hD, k1.new hD⟩ (fun _ _ _ _ _ => trivial) ?_ ?_
    · rintro i x b H2 H3 hi ⟨ps, sts, hD2, al, hl, J2, k2⟩ ⟨rfl, rfl⟩
      obtain ⟨xs3, hx3⟩ := J2.lst
      refine ⟨rfl, _, rfl, _, rfl, j, _, l, rfl, J2, hG, by omega, fun b' p st H4 np ok hst J4 k4 => ?_⟩
      have hD4 : H4 D1 = some (.lst (ps.map V.ref)) := k4 D1 _ nDj hD2
      have kD : ∀ o, Kp D1 H4 (L2.upd H4 D1 o) := fun o => .upd
      refine ⟨_, hD4, by rw [List.length_map, al.al.len, sizeLine_eq]; omega, ps ++ [p], sts ++ [st], ?_, ?_, by rw [List.length_append, hl]; rfl, ?_, ?_⟩
      · rw [upd_same, List.map_append]; rfl
      · exact AlB.snoc ((hst.kp (kD _) hD4).mono (Nat.le_max_right _ _)) ok (((al.kp k4 hx3).kp (kD _) hD4).mono (Nat.le_max_left _ _))
      · obtain ⟨a', b', c', e1, e2⟩ := J4.le (show n + 1 + 50 * i + 50 ≤ n + 1 + 50 * (i + 1) by omega)
        exact ⟨a', b', c', by rw [upd_ne nDj.symm]; exact e1, e2⟩
      · intro b o nb hb
        rw [upd_ne (ne_of_none (k1 b o nb hb) hD)]; exact (k2.trans k4) b o nb hb
    · rintro b H2 ⟨ps, sts, hD2, al, hl, J2, k2⟩
      refine ⟨D1, _, rfl, .inl ⟨SqL.of hD2, fun t ht => ?_⟩⟩
      have kt : Ext H2 (L2.upd H2 t (.tup (ps.map V.ref))) := Ext.refl.new ht
      exact q b t sts _ (k2.none ht ⟨_, hx0⟩ J2.lst) (by omega) ⟨ps, SqT.of upd_same, al.ext kt⟩ ((J2.ext kt).le (by omega)) (k2.trans kt.kp)
theorem rowB_drop' {b : Nat} {σ : L2.St} {H : Hp} {r : Addr} {sts : List Stp} {k : Int} {Q : VK} (hR : RowB K b H r sts) (h0 : 0 ≤ k) (q : ∀ r' H', Ext H H' → RowB K b H' r' (sts.drop k.toNat) → Q (.ref r') H') : tNoPart σ H fun u H3 => rSlA K (.ref r) (some k) u H3 Q := rowB_drop hR h0 q
theorem ok_udoors {f : Addr} {fd : FuncData} (F : Fun K "_law_doors" "_law_doors" sLawDoors f fd) (T : Nms mg) (D : Cl P w K mg base 1 "_law_draw" spDraw) (G : ClB P w K mg base 3 "_law_step" spUstep) (G2 : ClB P w K mg base 4 "_law_steps" (spUrow K)) : FnU P w K mg base 5 f (spUdoors K) := by
  refine fnU_ofB F scLawDoors (fun kV doc pm an cdv ct us hl => match us, hl with | [_, _], _ => rfl) (fun vs H Q h => ?_) (fun cdv A outer s H vs Q E hr h => ?_)
  · obtain ⟨j, n, l, rfl, _⟩ := h
    rfl
  · obtain ⟨j, n, l, rfl, hJ, hG, hn, q⟩ := h
    have nd := scLawDoors.nd
    refine ⟨_, PSsB.nox (pssb_cons (psb_par (i := 2) (j := 3) rfl nd rfl rfl (by decide) rfl rfl (pab_cons (peb_clB G2 hr (by decide) rfl (pa_cons (pv 0) (pa_cons (pv 1) pa_nil))) (pab_cons (peb0 (pe_lst pa_nil)) pab_nil)) (by rfl))
      (pssb_cons (psb_for PassesOwn.never rfl (pi_range1 rfl T.range (pa_cons pe_int pa_nil)) (pg_name (i := 4) nd rfl (Or.inl rfl))
        (pssb_cons (psb0 (ps_par (i := 5) (j := 6) rfl nd rfl rfl (by decide) rfl rfl (pa_cons (pe_cl D hr (by decide) rfl (pa_cons (pv 0) (pa_cons pe_int pa_nil))) (pa_cons (pe_cl D hr (by decide) rfl (pa_cons (pv 0) (pa_cons (pe_op op_add (pe_callB call_len_seq (by rfl) T.len PySem.boot_len (pa_cons (pv 2) pa_nil)) pe_int) pa_nil))) pa_nil)) (by rfl)))
        (pssb_cons (psb0 (ps_set (i := 7) nd rfl (Or.inl rfl) (pv 2)))
        (pssb_cut (psb_if (fun _ => ptn (pt_cmpR op_eq (pv 5) pe_int (nomark _)))
            (pssb0 (pss_one (ps_set (i := 7) nd rfl (Or.inl rfl) (pe_op op_catA (pe_slice sl_tupA (pv 2) po_none (po_some (pv 6))) (pe_slice sl_tupA (pv 2) (po_some (pe_op op_add (pv 6) pe_int)) po_none)))))
            (pssb_one (psb_if (fun _ => ptn (PW.pt (pw_and (pt_cmpR op_eq (pv 5) pe_int (nomark _)) (pw_and1 (pt_cmpR op_lt (pe_callB call_len_seq (by rfl) T.len PySem.boot_len (pa_cons (pv 2) pa_nil)) pe_int (nomark _))))))
              (pssb_one (psb_set (i := 7) nd rfl (Or.inl rfl) (peb_op op_catA (peb_op op_catA (peb0 (pe_slice sl_tupA (pv 2) po_none (po_some (pv 6)))) (peb_tup (pab_cons (peb_clB G hr (by decide) rfl (pa_cons (pv 0) (pa_cons (pv 1) pa_nil))) pab_nil))) (peb0 (pe_slice sl_tupA (pv 2) (po_some (pv 6)) po_none)))))
              (pssb_one (psb_if (fun _ => ptn (pt_cmpR op_eq (pv 5) pe_int (nomark _))) (pssb_one (psb_set (i := 7) nd rfl (Or.inl rfl) (peb_clB G2 hr (by decide) rfl (pa_cons (pv 0) (pa_cons (pv 1) pa_nil))))) pssb_nil)))))
        (pssb0 (pss_one (ps_expr (pe_bm PySem.F.plainAttrs_list PySem.F.slot_list_append PySem.F.type_list_append mt_append (pv 3) (pa_cons (pv 7) pa_nil)))))))))
      (pssb0 (pss_one (ps_ret (pv 3)))))), ?_⟩
    obtain ⟨xs0, hx0⟩ := hJ.lst
    refine ⟨_, rfl, _, rfl, j, n, l, rfl, hJ, hG, by omega, fun b0 r sts H1 nr h6 R1 J1 k1 => ⟨by show 0 ≤ sizeLine; decide, fun p hp => ⟨_, _, rfl, ?_⟩⟩⟩
    have kp1 : Kp j H (L2.upd H1 p (.lst [])) := k1.new hp
    have Rp := (R1.ext (Ext.refl.new (o := .lst []) hp)).mono (Nat.le_max_right 0 b0)
    have np : H p = none := k1.none hp ⟨_, hx0⟩ J1.lst
    obtain ⟨xs1, hx1⟩ := J1.lst
    have npj : p ≠ j := by rintro rfl; rw [hx1] at hp; cases hp
    refine ⟨4, rfl, by decide, by decide, ?_⟩
    refine forB_it (walk_range (lo := 0) (n := 4)) (fun i b σ H' => ∃ u4 u5 u6 u7 rs rws, σ = [some (.ref j), some (.str (S l)), some (.ref r), some (.ref p), u4, u5, u6, u7] ∧ H' p = some (.lst (rs.map V.ref)) ∧ RwB K b H' rs rws ∧ rws.length = i ∧ RowB K b H' r sts ∧ JarAt H' j (n + 400 + 500 * i) ∧ Kp j H H')
      ⟨_, _, _, _, [], [], rfl, upd_same, .nil, rfl, Rp, J1.new hp, kp1⟩ (fun _ _ _ _ _ _ => trivial) ?_ ?_
    · rintro i x b σ H2' H2 hi ⟨u4, u5, u6, u7, rs, rws, rfl, hp2, W2, hl2, R2, J2, k2⟩ ⟨rfl, rfl⟩
      refine ⟨_, rfl, j, 7, _, rfl, J2, by omega, by decide, by decide, fun way H3 hw0 hw1 J3 k3 => ?_⟩
      obtain ⟨xs2, hx2⟩ := J2.lst
      have R3 := R2.kp k3 hx2
      obtain ⟨ps3, hq3, al3⟩ := id R3
      refine ⟨_, rfl, _, rfl, r, _, rfl, .inr hq3, _, _, rfl, rfl, j, _, _, rfl, J3, by omega, ?_, ?_, fun k H4 hk0 hk1 J4 k4 => ?_⟩
      · rw [List.length_map, al3.al.len]; omega
      · rw [List.length_map, al3.al.len]; omega
      obtain ⟨xs3, hx3⟩ := J3.lst
      obtain ⟨xs4, hx4⟩ := J4.lst
      have k34 := k3.trans k4
      have R4 := R3.kp k4 hx3
      have W4 := W2.kp hx2 k34
      have hp4 := k34 p _ npj hp2
      have k24 := k2.trans k34
      refine ⟨_, _, rfl, ?_⟩
      refine ⟨_, rfl, ?_⟩
      refine ⟨fun b' σ' H' => ∃ r' sts', σ' = [some (.ref j), some (.str (S l)), some (.ref r), some (.ref p), some (.int (0 + (i : Nat))), some (.int way), some (.int k), some (.ref r')] ∧ sts'.length ≤ 6 ∧ RowB K b' H' r' sts' ∧ H' p = some (.lst (rs.map V.ref)) ∧ RwB K b' H' rs rws ∧ RowB K b' H' r sts ∧ JarAt H' j (n + 400 + 500 * i + 500) ∧ Kp j H H', ?_, ?_⟩
      · refine ⟨_, rfl, rfl, _, rfl, ite2 (fun _ => ?_) (fun _ => ?_)⟩
        · refine ⟨_, rfl, _, rfl, k, rfl, rowB_take (σ := []) R4 hk0 fun r1 H5 k5 R5 => ?_⟩
          refine ⟨_, rfl, _, rfl, _, _, rfl, rfl, _, rfl, ?_⟩
          refine rowB_drop' (K := K) (R4.ext k5) (by omega) fun r2 H6 k6 R6 => ?_
          refine rowB_cat (R5.ext k6) R6 (by rw [List.length_take, List.length_drop]; omega) fun r3 H7 k7 R7 => ?_
          have k57 := (k5.trans k6).trans k7
          exact ⟨r3, _, rfl, by rw [List.length_append, List.length_take, List.length_drop]; omega, R7, k57 p _ hp4, W4.ext k57, R4.ext k57, (J4.ext k57).le (by omega), k24.trans k57.kp⟩
        · have fin : ∃ r' sts', ([some (.ref j), some (.str (S l)), some (.ref r), some (.ref p), some (.int (0 + (i : Nat))), some (.int way), some (.int k), some (.ref r)] : L2.St) = [some (.ref j), some (.str (S l)), some (.ref r), some (.ref p), some (.int (0 + (i : Nat))), some (.int way), some (.int k), some (.ref r')] ∧ sts'.length ≤ 6 ∧ RowB K b H4 r' sts' ∧ H4 p = some (.lst (rs.map V.ref)) ∧ RwB K b H4 rs rws ∧ RowB K b H4 r sts ∧ JarAt H4 j (n + 400 + 500 * i + 500) ∧ Kp j H H4 :=
            ⟨r, sts, rfl, h6, R4, hp4, W4, R4, J4.le (by omega), k24⟩
          refine ⟨_, rfl, rfl, _, rfl, ?_⟩
          by_cases h5 : V.int way = V.int 5
          · rw [decide_eq_true h5]
            obtain ⟨ps4, hq4, al4⟩ := id R4
            refine iteT ⟨_, rfl, r, _, rfl, .inr hq4, _, _, rfl, rfl, _, rfl, ?_⟩
            rw [List.length_map, al4.al.len]
            by_cases hl6 : sts.length < 6
            · rw [decide_eq_true (show ((sts.length : Nat) : Int) < 6 by omega)]
              refine iteT ⟨_, rfl, _, rfl, k, rfl, rowB_take (σ := []) R4 hk0 fun r1 H5 k5 R5 => ?_⟩
              refine ⟨_, rfl, _, rfl, j, _, l, rfl, J4.ext k5, hG, by omega, fun b6 s st H6 ns hok hst J6 k6 => ?_⟩
              refine ⟨by show 1 ≤ sizeLine; decide, fun t ht => ?_⟩
              have hx5 : H5 j = some (.lst xs4) := k5 j _ hx4
              have kt : Ext H6 (L2.upd H6 t (.tup [.ref s])) := Ext.refl.new ht
              have lm : b ≤ max b b6 := Nat.le_max_left _ _
              have R7 : RowB K (max b b6) (L2.upd H6 t (.tup [.ref s])) t [st] := ⟨[s], SqT.of upd_same, .cons ((hst.ext kt).mono (Nat.le_max_right _ _)) hok .nil⟩
              refine rowB_cat (((R5.kp k6 hx5).ext kt).mono lm) R7 (by rw [List.length_take]; show _ + 1 ≤ 1000; omega) fun r3 H7 k7 R7' => ?_
              have R4' : RowB K (max b b6) H7 r sts := ((((R4.ext k5).kp k6 hx5).ext kt).ext k7).mono lm
              refine ⟨_, rfl, _, rfl, k, rfl, ?_⟩
              refine rowB_drop' (K := K) R4' hk0 fun r4 H8 k8 R8 => ?_
              refine rowB_cat (R7'.ext k8) R8 (by rw [List.length_append, List.length_take, List.length_drop]; show _ + 1 + _ ≤ 1000; omega) fun r5 H9 k9 R9 => ?_
              have kk : Ext H6 H9 := (((kt.trans k7).trans k8).trans k9)
              refine ⟨r5, _, rfl, ?_, R9, kk p _ (k6 p _ npj (k5 p _ hp4)), (((W4.ext k5).kp hx5 k6).ext kk).mono lm, (R4'.ext k8).ext k9, (J6.ext kk).le (by omega), ((k24.trans k5.kp).trans k6).trans kk.kp⟩
              rw [List.length_append, List.length_append, List.length_take, List.length_drop]
              show _ + 1 + _ ≤ 6
              omega
            · rw [decide_eq_false (show ¬ ((sts.length : Nat) : Int) < 6 by omega)]
              refine iteF ⟨_, rfl, rfl, _, rfl, ite2 (fun e => ?_) (fun _ => fin)⟩
              have e := of_decide_eq_true e
              rw [h5] at e
              exact absurd e (by decide +kernel)
          · rw [decide_eq_false h5]
            refine iteF (iteF ⟨_, rfl, rfl, _, rfl, ite2 (fun _ => ?_) (fun _ => fin)⟩)
            refine ⟨_, rfl, _, rfl, j, _, l, rfl, J4, hG, by omega, fun b5 r5 sts5 H5 nr5 h65 R5 J5 k5 => ?_⟩
            have lm : b ≤ max b b5 := Nat.le_max_left _ _
            exact ⟨r5, sts5, rfl, h65, R5.mono (Nat.le_max_right _ _), k5 p _ npj hp4, (W4.kp hx4 k5).mono lm, (R4.kp k5 hx4).mono lm, J5.le (by omega), k24.trans k5⟩
      · rintro b5 σ' H5 ⟨r', sts', rfl, h6', R5, hp5, W5, Rr5, J5, k5⟩
        refine ⟨_, rfl, .inl ⟨rfl, _, SqL.of hp5⟩, _, rfl, p, _, _, rfl, rfl, hp5, by rw [List.length_map, W5.len, hl2, sizeLine_eq]; omega, ?_⟩
        have kq : Kp p H5 (L2.upd H5 p (.lst (rs.map V.ref ++ [.ref r']))) := .upd
        refine ⟨_, _, _, _, rs ++ [r'], rws ++ [sts'], rfl, ?_, RwB.snoc (R5.kp kq hp5) h6' (W5.kp hp5 kq), by rw [List.length_append, hl2]; rfl, Rr5.kp kq hp5, ?_, ?_⟩
        · rw [upd_same, List.map_append]; rfl
        · obtain ⟨a', b', c', e1, e2⟩ := J5.le (show n + 400 + 500 * i + 500 ≤ n + 400 + 500 * (i + 1) by omega)
          exact ⟨a', b', c', by rw [upd_ne npj.symm]; exact e1, e2⟩
        · intro b o nb hb
          have nbp : b ≠ p := by rintro rfl; rw [np] at hb; cases hb
          rw [upd_ne nbp]; exact k5 b o nb hb
    · rintro b σ H2 ⟨u4, u5, u6, u7, rs, rws, rfl, hp2, W2, hl2, R2, J2, k2⟩
      exact ⟨_, rfl, q b p rs rws H2 np ⟨hp2, W2, hl2⟩ (J2.le (by omega)) k2⟩
end
end Pd

set_option maxHeartbeats 4000000
namespace Pd
open PySem PySem.Spec PyProof.Rows L2 SX
/-! ### a heap in which a few lists, dicts and shelves may have changed -/
def shF (d t : Addr) (n : Nat) (p : Addr) : List (Str × V) := [("_doors", .ref d), ("_table", .ref t), ("_turn", .int (n : Nat)), ("_past", .ref p)]
def MutO (o : HO) : Prop := (∃ xs, o = .lst xs) ∨ (∃ ds, o = .dK ds) ∨ ∃ C dx d t n p, o = .ins C dx (shF d t n p)
def KpL (js : List Addr) (H H' : Hp) : Prop := ∀ b o, b ∉ js → H b = some o → H' b = some o
theorem KpL.refl {js : List Addr} {H : Hp} : KpL js H H := fun _ _ _ h => h
theorem KpL.trans {js : List Addr} {H H' H'' : Hp} (a : KpL js H H') (b : KpL js H' H'') : KpL js H H'' := fun c o n h => b c o n (a c o n h)
theorem KpL.of {js : List Addr} {j : Addr} {H H' : Hp} (hj : j ∈ js) (k : Kp j H H') : KpL js H H' := fun b o n h => k b o (by rintro rfl; exact n hj) h
theorem KpL.ext {js : List Addr} {H H' : Hp} (k : Ext H H') : KpL js H H' := fun b o _ h => k b o h
theorem KpL.mono {js ks : List Addr} {H H' : Hp} (k : KpL js H H') (s : ∀ j ∈ js, j ∈ ks) : KpL ks H H' := fun b o n h => k b o (fun z => n (s b z)) h
theorem KpL.upd {js : List Addr} {j : Addr} {H : Hp} {o : HO} (hj : j ∈ js) : KpL js H (L2.upd H j o) := .of hj .upd
theorem KpL.new {js : List Addr} {l : Addr} {H H' : Hp} {o : HO} (a : KpL js H H') (hl : H' l = none) : KpL js H (L2.upd H' l o) := a.trans (.ext (Ext.refl.new hl))
/-- what was not there may change too -/
theorem KpL.cut {js ks : List Addr} {H H' : Hp} (k : KpL ks H H') (s : ∀ j ∈ ks, j ∈ js ∨ H j = none) : KpL js H H' := fun b o n h => k b o (fun z => by
  rcases s b z with z | z
  · exact n z
  · rw [h] at z; cases z) h
theorem KpL.ne {js : List Addr} {H H' : Hp} {a : Addr} (k : KpL js H H') (h : H' a = none) (n : a ∉ js) : H a = none := by
  cases e : H a with
  | none => rfl
  | some o => rw [k a o n e] at h; cases h
/-- what may change is a list, a dict or a shelf -/
def ChgM (H : Hp) (js : List Addr) : Prop := ∀ j ∈ js, ∃ o, H j = some o ∧ MutO o
theorem mut_tup {xs : List V} : ¬ MutO (.tup xs) := by
  rintro (⟨_, z⟩ | ⟨_, z⟩ | ⟨_, _, _, _, _, _, z⟩) <;> cases z
theorem mut_frz {o : Obj} {u : HO} : ¬ MutO (.frz o u) := by
  rintro (⟨_, z⟩ | ⟨_, z⟩ | ⟨_, _, _, _, _, _, z⟩) <;> cases z
theorem mut_ins {C dx : Addr} {x : Str} {v : V} {fs : List (Str × V)} (n : x ≠ "_doors") : ¬ MutO (.ins C dx ((x, v) :: fs)) := by
  rintro (⟨_, z⟩ | ⟨_, z⟩ | ⟨_, _, _, _, _, _, z⟩)
  · cases z
  · cases z
  · injection z with _ _ z
    injection z with z _
    exact n (congrArg Prod.fst z)
theorem kept {js : List Addr} {H H' : Hp} {a : Addr} {o : HO} (k : KpL js H H') (c : ChgM H js) (e : H a = some o) (n : ¬ MutO o) : H' a = some o := by
  refine k a o (fun z => ?_) e
  obtain ⟨o', e', m⟩ := c a z
  rw [e] at e'; cases e'
  exact n m
theorem StpAt.noMut {H : Hp} {p : Addr} {st : Stp} (h : StpAt H p st) {o : HO} (e : H p = Option.some o) : ¬ MutO o := by
  cases st with
  | swap a b =>
    obtain ⟨n, t0, t, u, e', _⟩ := h
    rw [e] at e'; cases e'; exact mut_frz
  | low => rw [show H p = _ from h] at e; cases e; exact mut_tup
  | drop _ => rw [show H p = _ from h] at e; cases e; exact mut_tup
  | lead _ => rw [show H p = _ from h] at e; cases e; exact mut_tup
  | once _ =>
    rcases h with h | ⟨o, h⟩
    · rw [h] at e; cases e; exact mut_tup
    · rw [h] at e; cases e; exact mut_frz
  | cut _ => rw [show H p = _ from h] at e; cases e; exact mut_tup
theorem Al.kpL {H H' : Hp} {js : List Addr} {ps : List Addr} {sts : List Stp} (h : Al H ps sts) (k : KpL js H H') (c : ChgM H js) : Al H' ps sts := h.same fun p hp o x => by
  obtain ⟨st, hst⟩ := h.mem hp
  exact kept k c x (hst.noMut x)
theorem AlB.kpL {b : Nat} {H H' : Hp} {js : List Addr} (k : KpL js H H') (c : ChgM H js) : ∀ {ps : List Addr} {sts : List Stp}, AlB b H ps sts → AlB b H' ps sts
  | _, _, .nil => .nil
  | _, _, .cons h ok r => .cons (h.same fun o x => kept k c x (h.1.noMut x)) ok (r.kpL k c)
section
variable {K : PySem.W.Frag}
theorem sqT_kpL {H H' : Hp} {js : List Addr} {a : Addr} {xs : List V} (h : SqT K H a xs) (k : KpL js H H') (c : ChgM H js) : SqT K H' a xs := by
  rcases h with (h | ⟨o, h⟩) | h
  · exact .inl (.inl (kept k c h mut_tup))
  · exact .inl (.inr ⟨o, kept k c h mut_frz⟩)
  · exact .inr h
theorem RowAt.kpL {H H' : Hp} {js : List Addr} {r : Addr} {sts : List Stp} (h : RowAt K H r sts) (k : KpL js H H') (c : ChgM H js) : RowAt K H' r sts := by
  obtain ⟨ps, e, a⟩ := h
  exact ⟨ps, sqT_kpL e k c, a.kpL k c⟩
theorem RowB.kpL {b : Nat} {H H' : Hp} {js : List Addr} {r : Addr} {sts : List Stp} (h : RowB K b H r sts) (k : KpL js H H') (c : ChgM H js) : RowB K b H' r sts := by
  obtain ⟨ps, e, a⟩ := h
  exact ⟨ps, sqT_kpL e k c, a.kpL k c⟩
theorem FoldAt.kpL {C : Addr} {H H' : Hp} {js : List Addr} {o r : Addr} {sts : List Stp} (h : FoldAt K C H o r sts) (k : KpL js H H') (c : ChgM H js) : FoldAt K C H' o r sts := by
  obtain ⟨⟨dx, e⟩, a, l⟩ := h
  exact ⟨⟨dx, kept k c e (mut_ins (by decide +kernel))⟩, a.kpL k c, l⟩
theorem DrAt.kpL {C CD : Addr} {H H' : Hp} {js : List Addr} {d o1 o2 o3 o4 r1 r2 r3 r4 : Addr} {s1 s2 s3 s4 : List Stp} (h : DrAt K C CD H d o1 o2 o3 o4 r1 r2 r3 r4 s1 s2 s3 s4) (k : KpL js H H') (c : ChgM H js) : DrAt K C CD H' d o1 o2 o3 o4 r1 r2 r3 r4 s1 s2 s3 s4 := by
  obtain ⟨dx, e⟩ := h.ins
  exact ⟨⟨dx, kept k c e (mut_ins (by decide +kernel))⟩, h.f1.kpL k c, h.f2.kpL k c, h.f3.kpL k c, h.f4.kpL k c⟩
theorem RwB.kpL {b : Nat} {H H' : Hp} {js : List Addr} (k : KpL js H H') (c : ChgM H js) : ∀ {rs : List Addr} {rws : List (List Stp)}, RwB K b H rs rws → RwB K b H' rs rws
  | _, _, .nil => .nil
  | _, _, .cons h l t => .cons (h.kpL k c) l (t.kpL k c)
theorem JarAt.kpL {H H' : Hp} {js : List Addr} {j : Addr} {n : Nat} (h : JarAt H j n) (k : KpL js H H') (nj : j ∉ js) : JarAt H' j n := by
  obtain ⟨a, b, c, h1, r⟩ := h
  exact ⟨a, b, c, k j _ nj h1, r⟩
end
/-! ### a table: forms, turns, first texts -/
abbrev Row3 := List Nat × Nat × List Nat
def kyS (l : List Nat) : Key := .inr (S l)
theorem kyS_inj {a b : List Nat} (h : kyS a = kyS b) : a = b := by
  injection h with h
  exact SX.S_inj h
def RowIs (H : Hp) (kv : Key × V) (r : Row3) : Prop := kv.1 = kyS r.1 ∧ ∃ p, kv.2 = .ref p ∧ H p = some (.tup [.int (r.2.1 : Nat), .str (S r.2.2)])
inductive KR (H : Hp) : List (Key × V) → List Row3 → Prop where
  | nil : KR H [] []
  | cons {kv : Key × V} {r : Row3} {kvs : List (Key × V)} {R : List Row3} (h : RowIs H kv r) (t : KR H kvs R) : KR H (kv :: kvs) (r :: R)
def forms (R : List Row3) : List (List Nat) := R.map (·.1)
def TabAt (H : Hp) (d : Addr) (R : List Row3) : Prop := ∃ kvs R', H d = some (.dK kvs) ∧ KR H kvs R' ∧ R'.Perm R
structure RowsOk (R : List Row3) (n : Nat) : Prop where
  nd : (forms R).Nodup
  asc : R.Pairwise fun a b => a.2.1 < b.2.1
  lt : ∀ r ∈ R, r.2.1 < n
  good : ∀ r ∈ R, Good r.1 ∧ Good r.2.2
section
variable {H H' : Hp}
theorem KR.same (k : ∀ p xs, H p = some (.tup xs) → H' p = some (.tup xs)) : ∀ {kvs : List (Key × V)} {R : List Row3}, KR H kvs R → KR H' kvs R
  | _, _, .nil => .nil
  | _, _, .cons ⟨e, p, e1, e2⟩ t => .cons ⟨e, p, e1, k p _ e2⟩ (t.same k)
theorem KR.len : ∀ {kvs : List (Key × V)} {R : List Row3}, KR H kvs R → kvs.length = R.length
  | _, _, .nil => rfl
  | _, _, .cons _ t => congrArg (· + 1) t.len
theorem KR.keys : ∀ {kvs : List (Key × V)} {R : List Row3}, KR H kvs R → kvs.map (·.1) = (forms R).map kyS
  | _, _, .nil => rfl
  | _, _, .cons (kv := kv) (r := r) (kvs := kvs) (R := R) h t => by
    show kv.1 :: kvs.map (·.1) = kyS r.1 :: (forms R).map kyS
    rw [h.1, t.keys]
theorem KR.none {g : List Nat} : ∀ {kvs : List (Key × V)} {R : List Row3}, KR H kvs R → g ∉ forms R → valV kvs (kyS g) = Option.none
  | _, _, .nil, _ => rfl
  | _, _, .cons (kv := kv) (r := r) h t, n => by
    have n1 : g ≠ r.1 := fun e => n (e ▸ List.mem_cons_self ..)
    rw [valV_neg (by rw [h.1]; exact fun e => n1 (kyS_inj e).symm)]
    exact t.none fun z => n (List.mem_cons_of_mem _ z)
theorem KR.some {g : List Nat} : ∀ {kvs : List (Key × V)} {R : List Row3}, KR H kvs R → g ∈ forms R → ∃ r p, r ∈ R ∧ r.1 = g ∧ valV kvs (kyS g) = Option.some (.ref p) ∧ H p = Option.some (.tup [.int (r.2.1 : Nat), .str (S r.2.2)])
  | _, _, .nil, n => nomatch n
  | _, _, .cons (kv := kv) (r := r) h t, n => by
    obtain ⟨e, p, e1, e2⟩ := h
    by_cases n1 : g = r.1
    · exact ⟨r, p, List.mem_cons_self .., n1.symm, by rw [valV_pos (by rw [e, n1]), e1], e2⟩
    · rcases List.mem_cons.mp n with z | z
      · exact absurd z n1
      · obtain ⟨r', p', a, b, c, d⟩ := t.some z
        exact ⟨r', p', List.mem_cons_of_mem _ a, b, by rw [valV_neg (by rw [e]; exact fun z => n1 (kyS_inj z).symm)]; exact c, d⟩
theorem KR.snoc {kv : Key × V} {r : Row3} (h : RowIs H kv r) : ∀ {kvs : List (Key × V)} {R : List Row3}, KR H kvs R → KR H (kvs ++ [kv]) (R ++ [r])
  | _, _, .nil => .cons h .nil
  | _, _, .cons h' t => .cons h' (t.snoc h)
theorem KR.drop {g : List Nat} : ∀ {kvs : List (Key × V)} {R : List Row3}, KR H kvs R → KR H (dropK kvs (kyS g)) (R.filter fun r => decide (r.1 ≠ g))
  | _, _, .nil => .nil
  | _, _, .cons (kv := kv) (r := r) (kvs := kvs) (R := R) h t => by
    have ih := t.drop (g := g)
    unfold dropK at ih ⊢
    by_cases n1 : r.1 = g
    · rw [List.filter_cons_of_neg (by rw [h.1, n1]; simp), List.filter_cons_of_neg (by rw [n1]; simp)]
      exact ih
    · rw [List.filter_cons_of_pos (by rw [h.1]; exact decide_eq_true fun e => n1 (kyS_inj e)), List.filter_cons_of_pos (by simpa using n1)]
      exact .cons h ih
end
theorem forms_perm {R R' : List Row3} (p : R'.Perm R) {g : List Nat} : g ∈ forms R' ↔ g ∈ forms R := (p.map (·.1)).mem_iff
theorem row_uniq {R : List Row3} (nd : (forms R).Nodup) {a b : Row3} (ha : a ∈ R) (hb : b ∈ R) (e : a.1 = b.1) : a = b := by
  induction R with
  | nil => cases ha
  | cons r R ih =>
    have nd' := List.nodup_cons.mp (show (r.1 :: forms R).Nodup from nd)
    rcases List.mem_cons.mp ha with h1 | h1
    · rcases List.mem_cons.mp hb with h2 | h2
      · rw [h1, h2]
      · exact absurd (show r.1 ∈ forms R from List.mem_map.mpr ⟨b, h2, by rw [← h1]; exact e.symm⟩) nd'.1
    · rcases List.mem_cons.mp hb with h2 | h2
      · exact absurd (show r.1 ∈ forms R from List.mem_map.mpr ⟨a, h1, by rw [← h2]; exact e⟩) nd'.1
      · exact ih nd'.2 h1 h2
section
variable {H H' : Hp} {d : Addr} {R : List Row3} {g : List Nat}
theorem TabAt.kpL {js : List Addr} (h : TabAt H d R) (k : KpL js H H') (c : ChgM H js) (n : d ∉ js) : TabAt H' d R := by
  obtain ⟨kvs, R', e, r, p⟩ := h
  exact ⟨kvs, R', k d _ n e, r.same (fun q xs z => kept k c z mut_tup), p⟩
theorem TabAt.ext (h : TabAt H d R) (k : Ext H H') : TabAt H' d R := by
  obtain ⟨kvs, R', e, r, p⟩ := h
  exact ⟨kvs, R', k d _ e, r.same (fun q xs z => k q _ z), p⟩
theorem TabAt.perm {R2 : List Row3} (h : TabAt H d R) (p : R.Perm R2) : TabAt H d R2 := by
  obtain ⟨kvs, R', e, r, q⟩ := h
  exact ⟨kvs, R', e, r, q.trans p⟩
/-- what a look at a table tells -/
theorem TabAt.look (h : TabAt H d R) (nd : (forms R).Nodup) : ∃ kvs, H d = some (.dK kvs) ∧ kvs.length = R.length ∧ (g ∉ forms R → valV kvs (kyS g) = none) ∧ (∀ r ∈ R, r.1 = g → ∃ p, valV kvs (kyS g) = some (.ref p) ∧ H p = some (.tup [.int (r.2.1 : Nat), .str (S r.2.2)])) := by
  obtain ⟨kvs, R', e, r, q⟩ := h
  refine ⟨kvs, e, r.len.trans q.length_eq, fun n => r.none fun z => n ((forms_perm q).mp z), fun a ha ea => ?_⟩
  obtain ⟨r', p, h1, h2, h3, h4⟩ := r.some ((forms_perm q).mpr (List.mem_map.mpr ⟨a, ha, ea⟩))
  have z := row_uniq nd ha (q.mem_iff.mp h1) (ea.trans h2.symm)
  subst z
  exact ⟨p, h3, h4⟩
theorem TabAt.put (h : TabAt H d R) (n : g ∉ forms R) {t : Nat} {x : List Nat} {p : Addr} (hp : H p = some (.tup [.int (t : Nat), .str (S x)])) : ∃ kvs, H d = some (.dK kvs) ∧ kvs.length = R.length ∧ TabAt (upd H d (.dK (putK kvs (kyS g) (.ref p)))) d (R ++ [(g, t, x)]) := by
  obtain ⟨kvs, R', e, r, q⟩ := h
  have en := r.none fun z => n ((forms_perm q).mp z)
  have sm : ∀ b xs, H b = some (.tup xs) → (upd H d (.dK (putK kvs (kyS g) (.ref p)))) b = some (.tup xs) := fun b xs z => by rw [upd_ne (by rintro rfl; rw [e] at z; cases z)]; exact z
  refine ⟨kvs, e, r.len.trans q.length_eq, kvs ++ [(kyS g, .ref p)], R' ++ [(g, t, x)], by rw [upd_same, putK_new _ en], (r.same sm).snoc ⟨rfl, p, rfl, sm p _ hp⟩, q.append_right _⟩
theorem TabAt.del (h : TabAt H d R) (n : g ∈ forms R) : ∃ kvs, H d = some (.dK kvs) ∧ (valV kvs (kyS g)).isSome = true ∧ TabAt (upd H d (.dK (dropK kvs (kyS g)))) d (R.filter fun r => decide (r.1 ≠ g)) := by
  obtain ⟨kvs, R', e, r, q⟩ := h
  obtain ⟨_, p, _, _, h3, _⟩ := r.some ((forms_perm q).mpr n)
  have sm : ∀ b xs, H b = some (.tup xs) → (upd H d (.dK (dropK kvs (kyS g)))) b = some (.tup xs) := fun b xs z => by rw [upd_ne (by rintro rfl; rw [e] at z; cases z)]; exact z
  exact ⟨kvs, e, by rw [h3]; rfl, dropK kvs (kyS g), _, upd_same, (r.same sm).drop, q.filter _⟩
end
end Pd

set_option maxHeartbeats 4000000
namespace Pd
open PySem PySem.Spec PyProof.Rows L2 SX
/-! ### a shelf: its doors, its table, its past -/
structure Dg where
  (o1 o2 o3 o4 r1 r2 r3 r4 : Addr) (s1 s2 s3 s4 : List Stp)
def DAt (K : PySem.W.Frag) (C CD : Addr) (H : Hp) (d : Addr) (g : Dg) : Prop := DrAt K C CD H d g.o1 g.o2 g.o3 g.o4 g.r1 g.r2 g.r3 g.r4 g.s1 g.s2 g.s3 g.s4
structure Pst where
  (tp d : Addr) (g : Dg) (t la ls : Addr) (added : List (List Nat)) (struck : List (Row3 × Addr × Addr)) (R : List Row3)
structure PstAt (K : PySem.W.Frag) (C CD : Addr) (H : Hp) (q : Pst) : Prop where
  tp : H q.tp = some (.tup [.ref q.d, .ref q.t, .ref q.la, .ref q.ls])
  doors : DAt K C CD H q.d q.g
  la : H q.la = some (.lst (q.added.map fun g => V.str (S g)))
  ls : H q.ls = some (.lst (q.struck.map fun x => V.ref x.2.1))
  pr : ∀ x ∈ q.struck, H x.2.1 = some (.tup [.str (S x.1.1), .ref x.2.2]) ∧ H x.2.2 = some (.tup [.int (x.1.2.1 : Nat), .str (S x.1.2.2)])
structure Rev (q : Pst) (R : List Row3) : Prop where
  ad : ∀ g ∈ q.added, g ∈ forms R
  nd : q.added.Nodup
  pm : ((R.filter fun r => decide (r.1 ∉ q.added)) ++ q.struck.map (·.1)).Perm q.R
def tabs (ps : List Pst) : List Addr := ps.map (·.t)
inductive Stk (K : PySem.W.Frag) (C CD : Addr) (H : Hp) : Addr → List Row3 → Nat → List Pst → Prop where
  | nil {t : Addr} {R : List Row3} {n : Nat} : Stk K C CD H t R n []
  | same {t : Addr} {R : List Row3} {n : Nat} {q : Pst} {ps : List Pst} (h : PstAt K C CD H q) (e : q.t = t) (r : Rev q R) (ok : RowsOk q.R n) (k : Stk K C CD H t q.R n ps) : Stk K C CD H t R n (q :: ps)
  | other {t : Addr} {R : List Row3} {n : Nat} {q : Pst} {ps : List Pst} (h : PstAt K C CD H q) (e1 : q.added = []) (e2 : q.struck = []) (tb : TabAt H q.t q.R) (ok : RowsOk q.R n) (ne : t ∉ tabs (q :: ps)) (k : Stk K C CD H q.t q.R n ps) : Stk K C CD H t R n (q :: ps)
structure Sh where
  (d : Addr) (g : Dg) (t : Addr) (n : Nat) (p : Addr) (R : List Row3) (st : List Pst)
def InsAt (CS : Addr) (H : Hp) (s d t : Addr) (n : Nat) (p : Addr) : Prop := ∃ dx, H s = some (.ins CS dx (shF d t n p))
structure ShAt (K : PySem.W.Frag) (C CD CS : Addr) (H : Hp) (s : Addr) (x : Sh) : Prop where
  ins : InsAt CS H s x.d x.t x.n x.p
  doors : DAt K C CD H x.d x.g
  tab : TabAt H x.t x.R
  rows : RowsOk x.R x.n
  past : H x.p = some (.lst ((x.st.reverse.map fun q => V.ref q.tp)))
  stk : Stk K C CD H x.t x.R x.n x.st
  dis : ∀ q ∈ x.st, q.la ≠ x.p ∧ q.ls ≠ x.p
def own (s : Addr) (x : Sh) : List Addr := s :: x.t :: x.p :: x.st.flatMap fun q => [q.la, q.ls, q.t]
theorem RowsOk.mono {R : List Row3} {n m : Nat} (h : RowsOk R n) (l : n ≤ m) : RowsOk R m := ⟨h.nd, h.asc, fun r z => Nat.lt_of_lt_of_le (h.lt r z) l, h.good⟩
theorem asc_len : ∀ {R : List Row3} {m n : Nat}, (∀ r ∈ R, m ≤ r.2.1 ∧ r.2.1 < n) → R.Pairwise (fun a b => a.2.1 < b.2.1) → m ≤ n → m + R.length ≤ n
  | [], m, n, _, _, l => l
  | r :: R, m, n, h, p, l => by
    obtain ⟨p1, p2⟩ := List.pairwise_cons.mp p
    obtain ⟨h1, h2⟩ := h r (List.mem_cons_self ..)
    have := asc_len (R := R) (m := m + 1) (n := n) (fun a ha => ⟨by have := p1 a ha; omega, (h a (List.mem_cons_of_mem _ ha)).2⟩) p2 (by omega)
    show m + (R.length + 1) ≤ n
    omega
theorem RowsOk.len {R : List Row3} {n : Nat} (h : RowsOk R n) : R.length ≤ n := by
  have := asc_len (m := 0) (fun r z => ⟨Nat.zero_le _, h.lt r z⟩) h.asc (Nat.zero_le _)
  omega
section
variable {K : PySem.W.Frag} {C CD CS : Addr} {H H' : Hp} {js : List Addr}
theorem DAt.kpL {d : Addr} {g : Dg} (h : DAt K C CD H d g) (k : KpL js H H') (c : ChgM H js) : DAt K C CD H' d g := DrAt.kpL h k c
theorem DAt.ext {d : Addr} {g : Dg} (h : DAt K C CD H d g) (k : Ext H H') : DAt K C CD H' d g := DrAt.ext h k
theorem PstAt.kpL {q : Pst} (h : PstAt K C CD H q) (k : KpL js H H') (c : ChgM H js) (n1 : q.la ∉ js) (n2 : q.ls ∉ js) : PstAt K C CD H' q :=
  ⟨kept k c h.tp mut_tup, h.doors.kpL k c, k _ _ n1 h.la, k _ _ n2 h.ls, fun x z => ⟨kept k c (h.pr x z).1 mut_tup, kept k c (h.pr x z).2 mut_tup⟩⟩
theorem Stk.kpL (k : KpL js H H') (c : ChgM H js) {n : Nat} : ∀ {ps : List Pst} {t : Addr} {R : List Row3}, Stk K C CD H t R n ps → (∀ q ∈ ps, q.la ∉ js ∧ q.ls ∉ js) → (∀ q ∈ ps, q.t = t ∨ q.t ∉ js) → Stk K C CD H' t R n ps
  | _, _, _, .nil, _, _ => .nil
  | _, _, _, .same h e r ok t, nl, nt =>
    .same (h.kpL k c (nl _ (List.mem_cons_self ..)).1 (nl _ (List.mem_cons_self ..)).2) e r ok (t.kpL k c (fun q z => nl q (List.mem_cons_of_mem _ z)) fun q z => nt q (List.mem_cons_of_mem _ z))
  | _, _, _, .other (q := q) (ps := ps) h e1 e2 tb ok ne t, nl, nt => by
    have nj : ∀ q' ∈ q :: ps, q'.t ∉ js := fun q' z => by
      rcases nt q' z with e | e
      · exact absurd (List.mem_map.mpr ⟨q', z, e⟩) ne
      · exact e
    exact .other (h.kpL k c (nl _ (List.mem_cons_self ..)).1 (nl _ (List.mem_cons_self ..)).2) e1 e2 (tb.kpL k c (nj q (List.mem_cons_self ..))) ok ne (t.kpL k c (fun q z => nl q (List.mem_cons_of_mem _ z)) fun q z => .inr (nj q (List.mem_cons_of_mem _ z)))
theorem Stk.mono {n m : Nat} (l : n ≤ m) : ∀ {ps : List Pst} {t : Addr} {R : List Row3}, Stk K C CD H t R n ps → Stk K C CD H t R m ps
  | _, _, _, .nil => .nil
  | _, _, _, .same h e r ok t => .same h e r (ok.mono l) (t.mono l)
  | _, _, _, .other h e1 e2 tb ok ne t => .other h e1 e2 tb (ok.mono l) ne (t.mono l)
theorem tab_mut {d : Addr} {R : List Row3} (h : TabAt H d R) : ∃ o, H d = some o ∧ MutO o := by
  obtain ⟨kvs, _, e, _⟩ := h
  exact ⟨_, e, .inr (.inl ⟨_, rfl⟩)⟩
theorem Stk.chg {n : Nat} : ∀ {ps : List Pst} {t : Addr} {R : List Row3}, Stk K C CD H t R n ps → (∃ o, H t = some o ∧ MutO o) → ∀ a ∈ ps.flatMap (fun q => [q.la, q.ls, q.t]), ∃ o, H a = some o ∧ MutO o
  | _, _, _, .nil, _, a, z => by simp at z
  | _, _, _, .same (q := q) h e r ok t, ht, a, z => by
    rw [List.flatMap_cons] at z
    rcases List.mem_append.mp z with z | z
    · simp only [List.mem_cons, List.mem_nil_iff, or_false] at z
      rcases z with rfl | rfl | rfl
      · exact ⟨_, h.la, .inl ⟨_, rfl⟩⟩
      · exact ⟨_, h.ls, .inl ⟨_, rfl⟩⟩
      · rw [e]; exact ht
    · exact t.chg ht a z
  | _, _, _, .other (q := q) h e1 e2 tb ok ne t, ht, a, z => by
    rw [List.flatMap_cons] at z
    rcases List.mem_append.mp z with z | z
    · simp only [List.mem_cons, List.mem_nil_iff, or_false] at z
      rcases z with rfl | rfl | rfl
      · exact ⟨_, h.la, .inl ⟨_, rfl⟩⟩
      · exact ⟨_, h.ls, .inl ⟨_, rfl⟩⟩
      · exact tab_mut tb
    · exact t.chg (tab_mut tb) a z
variable {s : Addr} {x : Sh}
theorem ShAt.chg (h : ShAt K C CD CS H s x) : ChgM H (own s x) := fun a z => by
  rcases List.mem_cons.mp z with rfl | z
  · obtain ⟨dx, e⟩ := h.ins
    exact ⟨_, e, .inr (.inr ⟨_, _, _, _, _, _, rfl⟩)⟩
  rcases List.mem_cons.mp z with rfl | z
  · exact tab_mut h.tab
  rcases List.mem_cons.mp z with rfl | z
  · exact ⟨_, h.past, .inl ⟨_, rfl⟩⟩
  · exact h.stk.chg (tab_mut h.tab) a z
theorem ShAt.dom (h : ShAt K C CD CS H s x) {a : Addr} (z : a ∈ own s x) : H a ≠ none := by
  obtain ⟨o, e, _⟩ := h.chg a z
  rw [e]; exact fun z => nomatch z
theorem own_s : s ∈ own s x := List.mem_cons_self ..
theorem own_t : x.t ∈ own s x := List.mem_cons_of_mem _ (List.mem_cons_self ..)
theorem own_p : x.p ∈ own s x := List.mem_cons_of_mem _ (List.mem_cons_of_mem _ (List.mem_cons_self ..))
theorem own_st {q : Pst} (h : q ∈ x.st) : q.la ∈ own s x ∧ q.ls ∈ own s x ∧ q.t ∈ own s x := by
  have z : ∀ a ∈ [q.la, q.ls, q.t], a ∈ own s x := fun a ha => List.mem_cons_of_mem _ (List.mem_cons_of_mem _ (List.mem_cons_of_mem _ (List.mem_flatMap.mpr ⟨q, h, ha⟩)))
  exact ⟨z _ (by simp), z _ (by simp), z _ (by simp)⟩
/-- a shelf stands where nothing of its own has changed -/
theorem ShAt.kpL (h : ShAt K C CD CS H s x) (k : KpL js H H') (c : ChgM H js) (n : ∀ a ∈ own s x, a ∉ js) : ShAt K C CD CS H' s x := by
  obtain ⟨dx, e⟩ := h.ins
  refine ⟨⟨dx, k _ _ (n _ own_s) e⟩, h.doors.kpL k c, h.tab.kpL k c (n _ own_t), h.rows, k _ _ (n _ own_p) h.past, h.stk.kpL k c (fun q z => ⟨n _ (own_st z).1, n _ (own_st z).2.1⟩) (fun q z => .inr (n _ (own_st z).2.2)), h.dis⟩
theorem ShAt.ext (h : ShAt K C CD CS H s x) (k : Ext H H') : ShAt K C CD CS H' s x := h.kpL (js := []) (.ext k) (fun _ z => nomatch z) fun _ _ z => nomatch z
theorem ShAt.ne (h : ShAt K C CD CS H s x) : s ≠ x.t ∧ s ≠ x.p ∧ x.t ≠ x.p := by
  obtain ⟨dx, e⟩ := h.ins
  obtain ⟨kvs, _, et, _⟩ := h.tab
  refine ⟨fun z => ?_, fun z => ?_, fun z => ?_⟩
  · rw [← z, e] at et; cases et
  · have := h.past; rw [← z, e] at this; cases this
  · have := h.past; rw [← z, et] at this; cases this
end
/-! ### what putting does -/
structure Pz where
  (R : List Row3) (n : Nat) (ans : List Bool) (added : List (List Nat))
def put1 (f : List Nat → List Nat) (z : Pz) (l : List Nat) : Pz :=
  if f l ∈ forms z.R then { z with ans := z.ans ++ [false] } else ⟨z.R ++ [(f l, z.n, l)], z.n + 1, z.ans ++ [true], z.added ++ [f l]⟩
def puts (f : List Nat → List Nat) (z : Pz) (ts : List (List Nat)) : Pz := ts.foldl (put1 f) z
theorem puts_take {f : List Nat → List Nat} {z : Pz} {ts : List (List Nat)} {i : Nat} {l : List Nat} (h : ts[i]? = some l) : puts f z (ts.take (i + 1)) = put1 f (puts f z (ts.take i)) l := by
  unfold puts
  rw [List.take_add_one, h, List.foldl_append]; rfl
structure PzOk (R : List Row3) (n : Nat) (z : Pz) (i : Nat) : Prop where
  new : ∃ N, z.R = R ++ N ∧ forms N = z.added
  ok : RowsOk z.R z.n
  le : n ≤ z.n ∧ z.n ≤ n + i
  len : z.ans.length = i
  al : z.added.length ≤ i
theorem forms_app {R N : List Row3} : forms (R ++ N) = forms R ++ forms N := List.map_append
theorem put1_ok {f : List Nat → List Nat} {R : List Row3} {n i : Nat} {z : Pz} {l : List Nat} (h : PzOk R n z i) (gf : Good (f l)) (gl : Good l) : PzOk R n (put1 f z l) (i + 1) := by
  unfold put1
  by_cases e : f l ∈ forms z.R
  · rw [if_pos e]
    exact ⟨h.new, h.ok, ⟨h.le.1, by have := h.le.2; show z.n ≤ _; omega⟩, by show (z.ans ++ [false]).length = _; rw [List.length_append, h.len]; rfl, by have := h.al; show z.added.length ≤ _; omega⟩
  · rw [if_neg e]
    obtain ⟨N, e1, e2⟩ := h.new
    refine ⟨⟨N ++ [(f l, z.n, l)], by show z.R ++ _ = _; rw [e1, List.append_assoc], by show forms (N ++ _) = z.added ++ _; rw [forms_app, e2]; rfl⟩, ⟨?_, ?_, ?_, ?_⟩, ⟨by have := h.le.1; show n ≤ z.n + 1; omega, by have := h.le.2; show z.n + 1 ≤ _; omega⟩, by show (z.ans ++ [true]).length = _; rw [List.length_append, h.len]; rfl, by have := h.al; show (z.added ++ [f l]).length ≤ _; rw [List.length_append]; show _ + 1 ≤ _; omega⟩
    · show (forms (z.R ++ _)).Nodup
      rw [forms_app, List.nodup_append]
      refine ⟨h.ok.nd, by show [f l].Nodup; simp, fun a ha b hb => ?_⟩
      have : b = f l := by simpa [forms] using hb
      rintro rfl
      exact e (this ▸ ha)
    · show (z.R ++ _).Pairwise _
      rw [List.pairwise_append]
      refine ⟨h.ok.asc, List.pairwise_singleton _ _, fun a ha b hb => ?_⟩
      rw [List.mem_singleton.mp hb]
      exact h.ok.lt a ha
    · intro r hr
      rcases List.mem_append.mp hr with hr | hr
      · have := h.ok.lt r hr; show _ < z.n + 1; omega
      · rw [List.mem_singleton.mp hr]; exact Nat.lt_succ_self _
    · intro r hr
      rcases List.mem_append.mp hr with hr | hr
      · exact h.ok.good r hr
      · rw [List.mem_singleton.mp hr]; exact ⟨gf, gl⟩
theorem puts_ok {f : List Nat → List Nat} {R : List Row3} {n : Nat} {ts : List (List Nat)} (h : RowsOk R n) (gf : ∀ l, Good l → Good (f l)) (gl : ∀ l ∈ ts, Good l) : ∀ i, i ≤ ts.length → PzOk R n (puts f ⟨R, n, [], []⟩ (ts.take i)) i
  | 0, _ => by rw [List.take_zero]; exact ⟨⟨[], (List.append_nil R).symm, rfl⟩, h, ⟨Nat.le_refl _, Nat.le_refl _⟩, rfl, Nat.le_refl _⟩
  | i + 1, hi => by
    have e : ts[i]? = some ts[i] := List.getElem?_eq_getElem hi
    rw [puts_take e]
    have g := gl ts[i] (List.getElem_mem hi)
    exact put1_ok (puts_ok h gf gl i (Nat.le_of_lt hi)) (gf _ g) g
theorem rev_put {R : List Row3} {n i : Nat} {z : Pz} (h : PzOk R n z i) {q : Pst} (e1 : q.added = z.added) (e2 : q.struck = []) (e3 : q.R = R) : Rev q z.R := by
  obtain ⟨N, r1, r2⟩ := h.new
  have nd := h.ok.nd
  rw [r1, forms_app, List.nodup_append] at nd
  refine ⟨fun g hg => ?_, ?_, ?_⟩
  · rw [e1, ← r2] at hg
    rw [r1, forms_app]; exact List.mem_append_right _ hg
  · rw [e1, ← r2]; exact nd.2.1
  · have a1 : R.filter (fun r => decide (r.1 ∉ z.added)) = R := List.filter_eq_self.mpr fun r hr => decide_eq_true fun z' => by
      rw [← r2] at z'
      exact nd.2.2 r.1 (List.mem_map.mpr ⟨r, hr, rfl⟩) r.1 z' rfl
    have a2 : N.filter (fun r => decide (r.1 ∉ z.added)) = [] := List.filter_eq_nil_iff.mpr fun r hr => by
      rw [← r2]
      have : r.1 ∈ forms N := List.mem_map.mpr ⟨r, hr, rfl⟩
      simp [this]
    rw [e1, e2, e3, r1, List.filter_append, a1, a2]
    simp
end Pd

set_option maxHeartbeats 4000000
namespace Pd
open PySem PySem.Spec PyProof.Rows L2
/-- isinstance(e, (c1, c2, ..)), e the exception that the suite holds -/
def rIsET (K : PySem.W.Frag) (D a : Addr) : List V → Hp → VK → Prop := fun xs H Q => ∃ (tp : Addr) (cs : List V) (us : List Value) (b : Bool), xs = [.ref a, .ref tp] ∧ H tp = some (.tup cs) ∧ Paired ClsV cs us ∧ PySem.W.kitAny K (.ref D) us = some b ∧ Q (.bl b) H
theorem call_isET {X : Cx} {a D : Addr} {oe : Obj} {pn : List (Addr × Obj)} (C : ExcC X.K D) (hz : Zc (.ref D) none oe) (hf : ∃ vs, oe.data = .fields vs) : CallR (X.suite a ((a, oe) :: pn)) (.builtin "isinstance") (rIsET X.K D a) := by
  intro pins s σ H xs us Q I r h
  obtain ⟨tp, cs, ws, b, rfl, hT, k, e, q⟩ := h
  obtain ⟨u1, u2, rfl, r1, r2⟩ := vals2 r
  cases (show u1 = Value.ref a from r1)
  cases (show u2 = Value.ref tp from r2)
  obtain ⟨_, its, rv, o, h1, h2, n, h3⟩ := (show ObjOk X.prog X.w H s.heap tp (.tup cs) from I.hok tp _ hT)
  have e3 := ClsV.all k rv
  subst e3
  obtain ⟨oc, od, dt, sl⟩ := o
  simp only at h2 h3
  subst h2 h3
  obtain ⟨hget, _⟩ := I.pin (a, oe) (List.mem_append.mpr (.inl List.mem_cons_self))
  obtain ⟨vs, hv⟩ := hf
  have J : PySem.W.InstAt s.heap a oe D none := by
    obtain ⟨oc, od, oda, osl⟩ := oe
    obtain ⟨z1, z2⟩ := hz
    dsimp only at z1 z2 hv
    subst z1 z2 hv
    exact ⟨hget, rfl, rfl, trivial⟩
  exact PySem.W.kia_tup (PySem.W.handS_kitx_exc C.hg C.hk C.hs C.hd C.ha C.hn C.ht C.hm) I.kIn J h1 e (fun z => nomatch z) fun tk => ⟨.bl b, H, I.kept (t' := tk) fun _ _ z => z, rfl, q⟩
/-- none of some classes -/
theorem kitAny_no {K : PySem.W.Frag} {D : Value} : ∀ {us : List Value}, (∀ u ∈ us, PySem.W.kitOne K D u = some false) → PySem.W.kitAny K D us = some false
  | [], _ => rfl
  | u :: us, h => by
    unfold PySem.W.kitAny
    rw [h u List.mem_cons_self]
    exact kitAny_no fun v hv => h v (List.mem_cons_of_mem _ hv)
/-- o.m(e, ..) of an own class where it may raise, in a try -/
def tMethX (C : Addr) (m : Str) (sp : Sp) (E : L2.St → XK) (ta : TE) (t : TA) : TE := fun σ H Q => ta σ H fun x H1 => ∃ (a dx : Addr) (fs : List (Str × V)), x = .ref a ∧ H1 a = some (.ins C dx fs) ∧ fs.lookup m = none ∧ t σ H1 fun vs H2 => sp (.ref a :: vs) H2 Q (E σ)
theorem pe_methX {X : Cx} {CX : CXT} {k : Nat} {C g : Addr} {fd : FuncData} {ps : List Str} {m : Str} {sp : Sp} {E : L2.St → XK} {o e : Expr} {es : List Expr} {ta : TE} {t : TA} {apos pos : Pos} {pl : Sem Bool} (he : PE X o ta) (c : Cls X.K C) (hm : Meth X.K C m g)
    (F : FnOk X.prog X.w X.K X.mg X.base CX k g fd ps sp) (hr : Room k X.A) (hb : Binds X.K fd ps []) (hx : ∀ σ, PassesAt CX X σ (E σ)) (ha : PA X (e :: es) t) (hst : starEach (e :: es) X.env = (false, eval e X.env) :: starEach es X.env := by rfl)
    (hpl : (backTo pos (starEach es X.env)).any (·.1) = false := by rfl)
    (ht : eval (.Call (.Attribute o m apos) (e :: es) [] pos) X.env = (do let ov ← eval o X.env; standAt apos.atName; let (f, first) ← holding [ov] (getMethod ov m pl); callWith pos f first (backTo pos (starEach (e :: es) X.env)) (backToKw pos (keywordEach [] X.env))) := by rfl) :
    PE X (.Call (.Attribute o m apos) (e :: es) [] pos) (tMethX C m sp E ta t) := by
  constructor
  intro pins s σ H Q I h
  refine PySem.W.methodCall_KW (pl := pl) (thn (he.run pins s σ H _ I h) ?_) ht
  rintro u s1 ⟨x, H1, I1, rx, a, dx, fs, rfl, ea, l, q⟩
  cases (show u = Value.ref a from rx)
  refine getmeth_ok I1 ea c hm l (PySem.W.callWith_K (first := [.ref a]) (h₀ := X.base) I.ok.mod.kin hm.kp (thn (ha.run pos pins s1 σ H1 _ I1 q) ?_) hst hpl)
  rintro us s2 ⟨vs, H2, I2, r, q2⟩
  exact ⟨I2.kIn, run_fnS (us := .ref a :: us) (vs := .ref a :: vs) F hr hb (hx σ) I2 (.cons rfl r) q2⟩
end Pd

namespace Pd
open PySem PySem.Spec PyProof.Rows L2 PySem.OEX
/-! ### D.__init__(self, ..) in an own error's __init__, D an own error without one -/
section
variable {X : Cx} {e : Expr} {es : List Expr} {ta : TA} {p1 p2 pos : Pos} {D : Addr} {x : Str}
theorem pe_oeinit {pl : Sem Bool} (hg : Gl X x) (hm : X.mg x = some (.ref D)) (rg : PySem.W.specialIn X.K (.ref D) "__getattribute__" = some (some (.builtin "type.__getattribute__"))) (rd : PySem.W.readsIn X.K D (.type "type") = true)
    (vV : PySem.W.findCls X.K (.ref D) (.type "type") "__init__" = some (.val (.builtin "ValueError.__init__"))) (ha : PA X (e :: es) ta)
    (hc : eval (.Call (.Attribute (.Name x p1) "__init__" p2) (e :: es) [] pos) X.env = (do
      let ov ← eval (.Name x p1) X.env
      standAt p2.atName
      let (f, first) ← holding [ov] (getMethod ov "__init__" pl)
      callWith pos f first (backTo pos (starEach (e :: es) X.env)) (backToKw pos (keywordEach [] X.env))) := by rfl)
    (hd : (x == ("__debug__" : Str)) = false := by decide)
    (he : starEach (e :: es) X.env = (false, eval e X.env) :: starEach es X.env := by rfl) (hpl : (backTo pos (starEach es X.env)).any (·.1) = false := by rfl) :
    PE X (.Call (.Attribute (.Name x p1) "__init__" p2) (e :: es) [] pos) (tVeI X.K ta) := by
  refine ⟨fun pins s σ H Q I h => ?_⟩
  refine PySem.W.methodCall_KW (ld_glob I hg hm ?_ hd) hc
  refine PySem.W.method_cls I.kIn rg (PySem.W.cls_value I.kIn rd vV (by decide +kernel) ?_)
  have I := I.tok (s.toks + 1)
  show wpAny _ _ (callWith pos (Value.builtin "ValueError.__init__") [] (backTo pos (starEach (e :: es) X.env)) []) _ _ _
  refine PyProof.Rows.callWith_method1 (thn (ha.run pos pins _ σ H _ I h) fun us s1 ⟨vs, H1, I1, r1, a, C, ws, ev, hl, T, ea, q⟩ => ?_) he hpl
  subst ev
  cases r1 with
  | @cons _ u0 _ ur ra rw' =>
    obtain rfl : u0 = Value.ref a := ra
    have hlen : ur.length ≤ sizeLine := by
      rw [← Paired.length rw', sizeLine_eq]
      omega
    exact oinit_ok T I1 ea hlen fun s' J => ⟨.non, H1, J, rfl, q⟩
end
end Pd

set_option maxHeartbeats 4000000
namespace Pd
open PySem PySem.Spec PyProof.Rows L2
/-! ### isinstance of a caught error that has a field -/
theorem excD_at {X : Cx} {a D dd : Addr} {oe : Obj} {pn pins : List (Addr × Obj)} {σ : L2.St} {H : Hp} {s : Shared} {fs : List (Str × V)} (hz : Zc (.ref D) (some dd) oe) (hf : ∃ vs, oe.data = .fields vs) (I : Inv (X.suite a ((a, oe) :: pn)) pins σ H s) (hd : H dd = some (.xd fs)) :
    ∃ od, PySem.W.InstAt s.heap a oe D (some od) := by
  obtain ⟨ha, _⟩ := I.pin (a, oe) (List.mem_append_left _ List.mem_cons_self)
  obtain ⟨vs, hv⟩ := hf
  obtain ⟨mA, hns, hr⟩ := (show ObjOk X.prog X.w H s.heap dd (.xd fs) from I.hok dd _ hd)
  obtain ⟨od, ho, hl⟩ := lookIn_ns hns
  exact ⟨od, ha, hz.1, by unfold PySem.W.notCls; rw [hv] <;> rfl, by rw [hz.2]; exact ho⟩
/-- isinstance(e, c) -/
def rIsD (K : PySem.W.Frag) (D a dd : Addr) : List V → Hp → VK → Prop := fun xs H Q => ∃ (c : V) (cv : Value) (b : Bool) (fs : List (Str × V)), xs = [.ref a, c] ∧ H dd = some (.xd fs) ∧ (∀ u, RelV c u → u = cv) ∧ PySem.W.kitOne K (.ref D) cv = some b ∧ Q (.bl b) H
theorem call_isD {X : Cx} {a D dd : Addr} {oe : Obj} {pn : List (Addr × Obj)} (C : ExcC X.K D) (hz : Zc (.ref D) (some dd) oe) (hf : ∃ vs, oe.data = .fields vs) : CallR (X.suite a ((a, oe) :: pn)) (.builtin "isinstance") (rIsD X.K D a dd) := by
  intro pins s σ H xs us Q I r h
  obtain ⟨c, cv, b, fs, rfl, hd, hcv, e, q⟩ := h
  obtain ⟨u1, u2, rfl, r1, r2⟩ := vals2 r
  cases (show u1 = Value.ref a from r1)
  obtain rfl := hcv _ r2
  obtain ⟨od, J⟩ := excD_at hz hf I hd
  have cl : (PySem.W.clsIn X.K D).isSome = true := by
    obtain ⟨cd, hc, _⟩ := PySem.W.any_some C.hd
    rw [hc]; rfl
  exact PySem.W.kia_one (PySem.W.kitx_exc cl C.hg C.hk C.hs C.ha C.hn C.ht C.hm) I.kIn J e (fun z => nomatch z) fun tk => ⟨.bl b, H, I.kept (t' := tk) fun _ _ z => z, rfl, q⟩
/-- isinstance(e, (c1, c2, ..)) -/
def rIsDT (K : PySem.W.Frag) (D a dd : Addr) : List V → Hp → VK → Prop := fun xs H Q => ∃ (tp : Addr) (cs : List V) (us : List Value) (b : Bool) (fs : List (Str × V)), xs = [.ref a, .ref tp] ∧ H dd = some (.xd fs) ∧ H tp = some (.tup cs) ∧ Paired ClsV cs us ∧ PySem.W.kitAny K (.ref D) us = some b ∧ Q (.bl b) H
theorem call_isDT {X : Cx} {a D dd : Addr} {oe : Obj} {pn : List (Addr × Obj)} (C : ExcC X.K D) (hz : Zc (.ref D) (some dd) oe) (hf : ∃ vs, oe.data = .fields vs) : CallR (X.suite a ((a, oe) :: pn)) (.builtin "isinstance") (rIsDT X.K D a dd) := by
  intro pins s σ H xs us Q I r h
  obtain ⟨tp, cs, ws, b, fs, rfl, hd, hT, k, e, q⟩ := h
  obtain ⟨u1, u2, rfl, r1, r2⟩ := vals2 r
  cases (show u1 = Value.ref a from r1)
  cases (show u2 = Value.ref tp from r2)
  obtain ⟨_, its, rv, o, h1, h2, n, h3⟩ := (show ObjOk X.prog X.w H s.heap tp (.tup cs) from I.hok tp _ hT)
  have e3 := ClsV.all k rv
  subst e3
  obtain ⟨oc, od', dt, sl⟩ := o
  simp only at h2 h3
  subst h2 h3
  obtain ⟨od, J⟩ := excD_at hz hf I hd
  have cl : (PySem.W.clsIn X.K D).isSome = true := by
    obtain ⟨cd, hc, _⟩ := PySem.W.any_some C.hd
    rw [hc]; rfl
  exact PySem.W.kia_tup (PySem.W.kitx_exc cl C.hg C.hk C.hs C.ha C.hn C.ht C.hm) I.kIn J h1 e (fun z => nomatch z) fun tk => ⟨.bl b, H, I.kept (t' := tk) fun _ _ z => z, rfl, q⟩
/-! ### f(k = v, ..) where it may raise, in a try -/
def tCallKX (m : Nat) (sp : Sp) (gV : List V → List V → List V) (E : L2.St → XK) (tk : TA) : TE := fun σ H Q => tk σ H fun zs H2 => zs.length = m ∧ sp (gV [] zs) H2 Q (E σ)
theorem pe_callKX {X : Cx} {CX : CXT} {k : Nat} {f : Addr} {fd : FuncData} {ps ks : List Str} {sp : Sp} {E : L2.St → XK} {x : Str} {p pos : Pos} {kws : List Keyword} {tk : TA} {g : List Value → List Value → List Value} {gV : List V → List V → List V}
    (F : FnOk X.prog X.w X.K X.mg X.base CX k f fd ps sp) (hr : Room k X.A) (hg : Gl X x) (hm : X.mg x = some (.ref f)) (hk : PySem.W.keepIn X.K (.ref f) = true) (hb : KBn X.K fd ps 0 ks g gV) (hx : ∀ σ, PassesAt CX X σ (E σ)) (hkw : PK X kws tk)
    (hall : (backToKw pos (keywordEach kws X.env)).all (·.1.isSome) = true := by rfl) (hks : (backToKw pos (keywordEach kws X.env)).filterMap (·.1) = ks := by rfl) (hdb : (x == ("__debug__" : Str)) = false := by decide)
    (hpl : ((backTo pos (starEach [] X.env)).any (·.1) || (backToKw pos (keywordEach kws X.env)).any (·.1.isNone)) = false := by rfl) :
    PE X (.Call (.Name x p) [] kws pos) (tCallKX ks.length sp gV E tk) := by
  constructor
  intro pins s σ H Q I h
  refine wpAny_Call_Name_kw (ld_glob I hg hm ?_ hdb)
  refine PySem.W.callWith_KW0 (h₀ := X.base) I.ok.mod.kin hk hall ?_ hpl
  refine thn (hkw.run pos pins s σ H _ I h) fun ws s2 ⟨zs, H2, I2, rz, l2, q2⟩ => ⟨I2.kIn, ?_⟩
  rw [hks]
  have r2 := hb.rel (.nil : Vals [] []) rz
  refine wpAny_call (codeAny_mono (F.run X.A X.stack s2 H2 ⟨[], ks.zip ws⟩ (g [] ws) (gV [] zs) Q (E σ) hr I2.env0 (hb.to s2 [] ws I2.kIn rfl (rz.length.symm.trans l2)) r2 q2) fun r s' hq => ?_)
  cases r with
  | error e => exact hx σ pins H2 s2 e s' I2 hq
  | ok fl =>
    cases fl with
    | ret u => exact I2.after hq
    | next => exact False.elim hq
    | brk => exact False.elim hq
    | cont => exact False.elim hq
/-! ### x != x: a list and its copy, one tuple, one empty dict, plain values -/
/-- an item that is seen to be equal to itself -/
def selfB : V → Bool
  | .non => true | .bl _ => true | .int _ => true | .str _ => true | .ref _ => true
  | _ => false
theorem eq_self {A : Around} {s : Shared} {x : V} {u v : Value} (h : selfB x = true) (r1 : RelV x u) (r2 : RelV x v) : SeqAt.EqAt A s u v true := by
  cases x with
  | non => cases r1; cases r2; exact SeqAt.EqAt.same _
  | bl b => cases r1; cases r2; exact SeqAt.EqAt.same _
  | int i =>
    obtain ⟨t, rfl⟩ := r1
    obtain ⟨t', rfl⟩ := r2
    have z := SeqAt.EqAt.int_int (A := A) (s := s) i t i t'
    rwa [beq_self_eq_true] at z
  | str y =>
    obtain ⟨t, rfl⟩ := r1
    obtain ⟨t', rfl⟩ := r2
    have z := SeqAt.EqAt.str_str (A := A) (s := s) y t y t'
    rwa [beq_self_eq_true] at z
  | ref a => cases (show u = Value.ref a from r1); cases (show v = Value.ref a from r2); exact SeqAt.EqAt.same _
  | _ => exact absurd (show false = true from h) Bool.false_ne_true
theorem sub_dd : isSubtype (.type "dict") (.type "dict") = pure true := by rw [isSubtype_type]; kernel_rfl
theorem dictNe_self {a : Addr} {o : Obj} {ep : Nat} : Meets (Builtin.«dict.__ne__» ⟨[.ref a, .ref a], []⟩) (fun _ R s => (s.heap.get? a = some o ∧ o.cls = .type "dict" ∧ o.data = .dict #[] ep ∧ (a == sysModules) = false) ∧ R (.ok (.ret (.bool false))) s) :=
  .of_wp fun prog w A R s h => by
    obtain ⟨hp, g, d, tk, os⟩ := s
    obtain ⟨⟨ho, hc, hd, hs⟩, h⟩ := h
    obtain ⟨oc, od, dt, sl⟩ := o
    simp only at hc hd
    subst hc hd
    have hT : Shared.TypeIs ⟨hp, g, d, tk, os⟩ (.ref a) "dict" := ⟨_, ho, rfl⟩
    have sb := sub_dd
    wp_walk using wpAny_dictEntries ho rfl, TI.forIn_rng _ (fun rest b s' => rest = [] ∧ b = (none, ()) ∧ s' = ⟨hp, g, d, tk, os⟩) _
    case turn =>
      rintro x rest b s' ⟨hr, _⟩
      cases hr
    case fin =>
      rintro b s' ⟨_, rfl, rfl⟩
      wp_walk
      exact ⟨_, rfl, h⟩
    case h => exact ⟨rfl, rfl, rfl⟩
/-- x != y is False -/
def rNeSelf (K : PySem.W.Frag) : R2 := fun x y H Q => ((∃ (a b : Addr) (xs : List V), x = .ref a ∧ y = .ref b ∧ SqL K H a xs ∧ SqL K H b xs ∧ xs.all selfB = true) ∨ (∃ (a : Addr) (xs : List V), x = .ref a ∧ y = .ref a ∧ SqT K H a xs) ∨ (∃ a : Addr, x = .ref a ∧ y = .ref a ∧ H a = some (.dK [])) ∨
  (y = x ∧ (x = .non ∨ (∃ b, x = .bl b) ∨ (∃ i, x = .int i) ∨ ∃ z, x = .str z))) ∧ Q (.bl false) H
theorem op_neSelf {X : Cx} (hu : X.A.units + 64 < cLine) : OpR X (compareOp .NotEq) (rNeSelf X.K) := by
  intro pins s σ H x y v u Q I rx ry h
  obtain ⟨h, q⟩ := h
  have hu' : X.A.units < cLine := by omega
  have fin : ∀ {b : Bool}, b = false → EP X pins σ Q (.bool b) s := fun e => by subst e; exact ⟨.bl false, H, I, rfl, q⟩
  rcases h with ⟨a, b, xs, rfl, rfl, ha, hb, hs⟩ | ⟨a, xs, rfl, rfl, ha⟩ | ⟨a, rfl, rfl, ha⟩ | ⟨rfl, h⟩
  · cases (show v = Value.ref a from rx)
    cases (show u = Value.ref b from ry)
    obtain ⟨its, rv, pl, _⟩ := I.list ha
    obtain ⟨its2, rv2, pl2, _⟩ := I.list hb
    have l1 := rv.length
    have l2 := rv2.length
    refine SeqAt.RcNeAt.lists (e := fun _ => true) pl.isList pl2.isList (by simp only [List.size_toArray]; omega) hu' (fun j h1 h2 => ?_) X.prog X.w X.xe _ (fin (by simp))
    have hj : j < xs.length := by simp only [List.size_toArray] at h1; omega
    obtain ⟨u1, e1, r1⟩ := rv.get (List.getElem?_eq_getElem hj)
    obtain ⟨u2, e2, r2⟩ := rv2.get (List.getElem?_eq_getElem hj)
    have f1 : its.toArray[j] = u1 := by
      have z : its[j]? = some its.toArray[j] := by simp
      rw [e1] at z; exact (Option.some.inj z).symm
    have f2 : its2.toArray[j] = u2 := by
      have z : its2[j]? = some its2.toArray[j] := by simp
      rw [e2] at z; exact (Option.some.inj z).symm
    rw [f1, f2]
    exact eq_self (List.all_eq_true.mp hs _ (List.getElem_mem hj)) r1 r2
  · cases (show v = Value.ref a from rx)
    cases (show u = Value.ref a from ry)
    obtain ⟨its, rv, pl, _⟩ := I.tuple ha
    exact SeqAt.RcNeAt.tuples (e := fun _ => true) pl pl hu' (fun j h1 h2 => SeqAt.EqAt.same _) X.prog X.w X.xe _ (fin (by simp))
  · cases (show v = Value.ref a from rx)
    cases (show u = Value.ref a from ry)
    obtain ⟨_, hs, vs, kv, o, es, ep, ho, hx, hd, _, pr, _⟩ := (show ObjOk X.prog X.w H s.heap a (.dK []) from I.hok a _ ha)
    cases kv
    have es0 : es = #[] := by
      have z := pr.length
      simp at z
      exact z
    subst es0
    exact richCompare_meets_room (op := .NotEq) ⟨o, ho, hx.1⟩ ⟨o, ho, hx.1⟩ PySem.F.slot_dict_ne PySem.F.entry_dict_ne (PySem.F.args_dict_ne_2 _ _) (dictNe_self (o := o) (ep := ep)) ⟨⟨ho, hx.1, hd, hs⟩, (fun z => nomatch z), fin rfl⟩ hu'
  · rcases h with rfl | ⟨b, rfl⟩ | ⟨i, rfl⟩ | ⟨z, rfl⟩
    · cases rx; cases ry
      exact SeqAt.RcNeAt.none_none X.prog X.w X.xe _ (fin rfl)
    · cases rx; cases ry
      exact SeqAt.RcNeAt.bool_bool b b X.prog X.w X.xe _ (fin (by simp))
    · obtain ⟨t, rfl⟩ := rx
      obtain ⟨t', rfl⟩ := ry
      exact SeqAt.RcNeAt.int_int i t i t' X.prog X.w X.xe _ (fin (by simp))
    · obtain ⟨t, rfl⟩ := rx
      obtain ⟨t', rfl⟩ := ry
      exact SeqAt.RcNeAt.str_str z t z t' X.prog X.w X.xe _ (fin (by simp))
end Pd

set_option maxHeartbeats 4000000
namespace Pd
open PySem PySem.Spec PyProof.Rows L2
/-! ### o.m(k = v, ..) of an own class -/
def tMethKw (C : Addr) (m : Str) (n : Nat) (sp : Sp) (gV : List V → List V → List V) (E : XK) (ta : TE) (tk : TA) : TE := fun σ H Q => ta σ H fun x H1 => ∃ (a dx : Addr) (fs : List (Str × V)), x = .ref a ∧ H1 a = some (.ins C dx fs) ∧ fs.lookup m = none ∧ tk σ H1 fun zs H2 => zs.length = n ∧ sp (gV [.ref a] zs) H2 Q E
theorem pe_methKw {X : Cx} {CX : CXT} {k : Nat} {C f : Addr} {fd : FuncData} {ps ks : List Str} {m : Str} {sp : Sp} {E : XK} {o : Expr} {ta : TE} {tk : TA} {apos pos : Pos} {pl : Sem Bool} {kws : List Keyword} {g : List Value → List Value → List Value} {gV : List V → List V → List V} (he : PE X o ta) (c : Cls X.K C) (hm : Meth X.K C m f)
    (F : FnOk X.prog X.w X.K X.mg X.base CX k f fd ps sp) (hr : Room k X.A) (hb : KBn X.K fd ps 1 ks g gV) (hx : Passes CX X E) (hkw : PK X kws tk)
    (hall : (backToKw pos (keywordEach kws X.env)).all (·.1.isSome) = true := by rfl) (hks : (backToKw pos (keywordEach kws X.env)).filterMap (·.1) = ks := by rfl)
    (hpl : ((backTo pos (starEach [] X.env)).any (·.1) || (backToKw pos (keywordEach kws X.env)).any (·.1.isNone)) = false := by rfl)
    (ht : eval (.Call (.Attribute o m apos) [] kws pos) X.env = (do let ov ← eval o X.env; standAt apos.atName; let (f, first) ← holding [ov] (getMethod ov m pl); callWith pos f first (backTo pos (starEach [] X.env)) (backToKw pos (keywordEach kws X.env))) := by rfl) :
    PE X (.Call (.Attribute o m apos) [] kws pos) (tMethKw C m ks.length sp gV E ta tk) := by
  constructor
  intro pins s σ H Q I h
  refine PySem.W.methodCall_KW (pl := pl) (thn (he.run pins s σ H _ I h) ?_) ht
  rintro u s1 ⟨x, H1, I1, rx, a, dx, fs, rfl, ea, l, q⟩
  cases (show u = Value.ref a from rx)
  refine getmeth_ok I1 ea c hm l (PySem.W.callWith_KW0 (first := [.ref a]) (h₀ := X.base) I.ok.mod.kin hm.kp hall (thn (hkw.run pos pins s1 σ H1 _ I1 q) ?_) hpl)
  rintro ws s2 ⟨zs, H2, I2, rz, l2, q2⟩
  refine ⟨I2.kIn, ?_⟩
  rw [hks]
  have r2 := hb.rel (vs := [V.ref a]) (us := [Value.ref a]) (.cons rfl .nil) rz
  refine wpAny_call (codeAny_mono (F.run X.A X.stack s2 H2 ⟨[Value.ref a], ks.zip ws⟩ _ _ Q E hr I2.env0 (hb.to s2 _ ws I2.kIn rfl (rz.length.symm.trans l2)) r2 q2) fun r s' hq => ?_)
  cases r with
  | error e => exact hx pins σ H2 s2 e s' I2 hq
  | ok fl =>
    cases fl with
    | ret u => exact I2.after hq
    | next => exact False.elim hq
    | brk => exact False.elim hq
    | cont => exact False.elim hq
end Pd

set_option maxHeartbeats 4000000
namespace Pd
open PySem PySem.Spec PyProof.Rows L2
/-! ### len(set(xs)), xs a tuple of texts -/
def metS (xs : List Str) : Nat → List Str
  | 0 => []
  | i + 1 => if (metS xs i).any (· == xs.getD i Str.empty) then metS xs i else metS xs i ++ [xs.getD i Str.empty]
theorem metS_len (xs : List Str) : ∀ i, (metS xs i).length ≤ i
  | 0 => Nat.le_refl _
  | i + 1 => by
    have := metS_len xs i
    show (if _ then _ else _ : List Str).length ≤ _
    split
    · omega
    · rw [List.length_append]; show _ + 1 ≤ _; omega
theorem metS_any (xs : List Str) (i : Nat) (k : Str) : (metS xs (i + 1)).any (· == k) = ((metS xs i).any (· == k) || decide (k = xs.getD i Str.empty)) := by
  show (if _ then _ else _ : List Str).any _ = _
  generalize xs.getD i Str.empty = v
  split
  next h =>
    by_cases e : k = v
    · subst e; rw [h]; simp
    · simp [e]
  next h =>
    rw [List.any_append]
    by_cases e : k = v
    · subst e; simp
    · have z : (v == k) = false := beq_eq_false_iff_ne.mpr fun q => e q.symm
      simp [z, e]
theorem metS_step (xs : List Str) (i : Nat) : (metS xs (i + 1)).length = if (metS xs i).any (· == xs.getD i Str.empty) then (metS xs i).length else (metS xs i).length + 1 := by
  show (if _ then _ else _ : List Str).length = _
  split
  · rfl
  · rw [List.length_append]; rfl
theorem metS_mem (xs : List Str) (k : Str) : ∀ i, i ≤ xs.length → ((metS xs i).any (· == k) = true ↔ k ∈ xs.take i)
  | 0, _ => by simp [metS]
  | i + 1, h => by
    have hi : i < xs.length := h
    rw [metS_any, Bool.or_eq_true, metS_mem xs k i (Nat.le_of_lt hi), decide_eq_true_iff, List.take_add_one, List.getElem?_eq_getElem hi, List.mem_append]
    have e : xs.getD i Str.empty = xs[i] := by rw [List.getD_eq_getElem?_getD, List.getElem?_eq_getElem hi]; rfl
    rw [e]; simp
/-- as many are met as there are just where none stands twice -/
theorem metS_full (xs : List Str) : ∀ i, i ≤ xs.length → ((metS xs i).length = i ↔ (xs.take i).Nodup)
  | 0, _ => by simp [metS]
  | i + 1, h => by
    have hi : i < xs.length := h
    have e : xs.getD i Str.empty = xs[i] := by rw [List.getD_eq_getElem?_getD, List.getElem?_eq_getElem hi]; rfl
    have ih := metS_full xs i (Nat.le_of_lt hi)
    have l := metS_len xs i
    rw [metS_step, List.take_add_one, List.getElem?_eq_getElem hi, Option.toList_some, List.nodup_append]
    have m := metS_mem xs xs[i] i (Nat.le_of_lt hi)
    rw [e]
    by_cases z : (metS xs i).any (· == xs[i]) = true
    · rw [if_pos z]
      refine ⟨fun q => by omega, fun q => ?_⟩
      exact absurd rfl (q.2.2 _ (m.mp z) _ (List.mem_singleton_self _))
    · rw [if_neg z]
      refine ⟨fun q => ⟨ih.mp (by omega), by simp, fun a ha b hb => ?_⟩, fun q => by have := ih.mpr q.1; omega⟩
      rw [List.mem_singleton.mp hb]
      rintro rfl
      exact z (m.mpr ha)
section
variable {prog : Program} {w : World} {A : Around} {R : Result → Shared → Prop} {I : Addr} {fp wr : List Addr} {G : Array GenState → Array GenState → Prop} {n : Nat} {P : Nat → Value → Prop} {St : Nat → Shared → Prop}
theorem loop_strs (W : WalksS prog w A.in1 I fp wr G n P St) (S : Addr) (hSf : S ∉ fp) (xs : List Str) (hn1 : n ≤ 1000) (hval : ∀ i v, P i v → ∃ t, v = .str (xs.getD i Str.empty) t) :
    ∀ (k i : Nat) (s : Shared), n - i = k → i ≤ n → St i s → s.heap.SetOf (PySem.strKind prog w) S (fun k' => (metS xs i).any (· == k')) (metS xs i).length →
      (∀ s', Moved (S :: wr) G s s' → s'.heap.SetOf (PySem.strKind prog w) S (fun k' => (metS xs n).any (· == k')) (metS xs n).length → R (.ok (.ret .none)) s') →
      codeAny (model prog w) A (.builtin "set.update.loop" ⟨[.ref S, .ref I], []⟩) R s := by
  have nw : S ∉ wr := fun z => hSf (W.sub _ z)
  have up : ∀ b ∈ wr, b ∈ S :: wr := fun b z => List.mem_cons_of_mem _ z
  have stay : ∀ {s s' : Shared} {X : Str → Bool} {m : Nat}, Moved wr G s s' → s.heap.SetOf (PySem.strKind prog w) S X m → s'.heap.SetOf (PySem.strKind prog w) S X m := by
    rintro s s' X m hm ⟨o, es, ep, t, ho, more⟩
    exact ⟨o, es, ep, t, hm.heap S _ nw ho, more⟩
  intro k
  induction k with
  | zero =>
    intro i s ek hi st hs hR
    obtain rfl : i = n := by omega
    refine codeAny_builtin PyProof.Rows.F.entry_set_update_loop ?_
    rw [Around.under_plainId PyProof.Rows.F.plain_set_update_loop _]
    show wpAny _ A.in1 (pyNext (.ref I) >>= _) _ _ s
    exact wpAny_bind (W.done s _ _ st fun s' hm => show wpAny _ A.in1 (ret Value.none) _ _ s' from wpAny_pure (hR s' (hm.mono up) (stay hm hs)))
  | succ k ih =>
    intro i s ek hi st hs hR
    have lt : i < n := by omega
    refine codeAny_builtin PyProof.Rows.F.entry_set_update_loop ?_
    rw [Around.under_plainId PyProof.Rows.F.plain_set_update_loop _]
    show wpAny _ A.in1 (pyNext (.ref I) >>= _) _ _ s
    refine wpAny_bind (W.item i s _ _ lt st fun v s' hP st' hm => ?_)
    obtain ⟨t, rfl⟩ := hval i v hP
    show wpAny _ A.in1 (holding [Value.str (xs.getD i Str.empty) t] (setAdd S (.str (xs.getD i Str.empty) t)) >>= _) _ _ s'
    refine wpAny_bind (wpAny_holding ?_)
    unfold setAdd
    have ll := metS_len xs i
    have hs' : s'.heap.SetOf (PySem.strKind prog w) S (fun k' => (metS xs i).any (· == k')) (metS xs i).length := stay hm hs
    refine wpAny_holding (wpAny_bind ((PySem.strKind prog w).pyHash (k := xs.getD i Str.empty) (strKind_is _ _ _ _) ?_))
    refine wpAny_setAddHashed_of (knd := PySem.strKind prog w) (s := { s' with toks := s'.toks + 1 }) (strKind_is _ _ _ _) rfl hs' (by unfold scanBound; omega) fun h' hb h2 => ?_
    have here : h'.SetOf (PySem.strKind prog w) S (fun k' => (metS xs (i + 1)).any (· == k')) (metS xs (i + 1)).length :=
      SetOf_congr h2 (fun k' => by rw [metS_any]) (by rw [metS_step])
    have same : ∀ b o, b ≠ S → s'.heap.get? b = some o → h'.get? b = some o := fun b o nb e => by rw [hb.2 b nb]; exact e
    refine wpAny_pure ⟨plainId_quiet PyProof.Rows.F.plain_set_update_loop _, ih (i + 1) _ (by omega) lt (W.frame _ s' _ _ st' (Nat.le_succ _) fun b z o e => same b o (fun q => hSf (q ▸ z)) e) here fun s2 m2 h3 => ?_⟩
    exact hR s2 (Moved.trans W.gtrans ((hm.mono up).then_heap (Nat.le_succ _) fun b o z e => same b o (fun q => z (q ▸ List.mem_cons_self)) e) m2) h3
end
section
variable {prog : Program} {w : World} {A : Around} {E : Value → Shared → Prop} {s : Shared}
abbrev newSet (led : Bool) : Obj := { cls := .type "set", dict := none, data := .set #[] 0 (.fresh 0 0 led) }
theorem sub_ts : isSubtype (.type "tuple") (.type "set") = pure false := by rw [isSubtype_type]; kernel_rfl
theorem sub_tf : isSubtype (.type "tuple") (.type "frozenset") = pure false := by rw [isSubtype_type]; kernel_rfl
set_option maxHeartbeats 6400000 in
theorem set_of_tup {l : Addr} {items : Array Value} {xs : List Str} {Q : Value → Shared → Prop} (hh : A.handled = none) (hl : s.heap.IsTuple l items) (hi : PyProof.Rows.StrsAre items.toList xs) (hn : xs.length ≤ 1000)
    (hq : ∀ (g : Heap) (tk : Nat), g.SetOf (PySem.strKind prog w) s.heap.objs.size (fun k' => (metS xs xs.length).any (· == k')) (metS xs xs.length).length → (∀ b o, s.heap.get? b = some o → g.get? b = some o) → Q (.ref s.heap.objs.size) { s with heap := g, toks := tk }) :
    wpAny (model prog w) A (call (.type "set") [.ref l]) Q E s := by
  obtain ⟨c, tl, hmro⟩ := PySem.F.called_set.mro
  have made := PySem.F.called_set.made
  have subs := PySem.F.called_set.sub
  have sz : xs.length = items.size := by rw [← StrsAre.len_eq hi, Array.length_toList]
  rw [sz] at hq
  refine wpAny_call (codeAny_of_tree ?_)
  show wpAny _ _ (callAny (.type "set") _) _ _ _
  refine wpAny_pure ⟨Code.quiet_builtin _ (by decide +kernel), codeAny_builtin PySem.F.entry_type_call ?_⟩
  rw [Around.under_plain (weight_type_call_type "set" [.ref l] []) rfl]
  have nt := PySem.F.called_set.notType
  have cc := PySem.F.called_set.canCreate
  have tc := PySem.F.typeCall_set_1 (.ref l)
  repeat (any_goals (first | assumption | wp_step))
  refine codeAny_mono (code_set_new_1 (.ref l) (E := E) (Q₁ := fun ob s1 => ∃ led, ob = .ref s.heap.objs.size ∧ s1 = { s with heap := s.heap.push (newSet led) }) fun led => ⟨led, rfl, rfl⟩) fun r s1 hr => ?_
  cases r with
  | error e => exact hr
  | ok fl =>
    cases fl with
    | next => exact hr.elim
    | brk => exact hr.elim
    | cont => exact hr.elim
    | ret ob =>
      obtain ⟨led, rfl, rfl⟩ := hr
      have gS : (s.heap.push (newSet led)).get? s.heap.objs.size = some (newSet led) := Heap.get?_push_size _ rfl
      have tS : Shared.TypeIs { s with heap := s.heap.push (newSet led) } (.ref s.heap.objs.size) "set" := ⟨_, gS, rfl⟩
      have li := PySem.F.called_set.init.lookup
      have bi := PySem.F.called_set.init.bind (.ref s.heap.objs.size)
      repeat (any_goals (first | assumption | wp_step))
      refine codeAny_mono (codeAny_call_builtin (R := wants (fun r s2 => r = .none ∧ ∃ g tk, s2 = { s with heap := g, toks := tk } ∧
          g.SetOf (PySem.strKind prog w) s.heap.objs.size (fun k' => (metS xs items.size).any (· == k')) (metS xs items.size).length ∧ (∀ b o, s.heap.get? b = some o → g.get? b = some o)) E)
          PySem.F.called_set.init.plain PySem.F.entry_set_init (check_set_init_1 tS ?_)) fun r2 s2 h2 => ?_
      · have s1 := sub_ts
        have s3 := sub_tf
        have hl1 : (s.heap.push (newSet led)).IsTuple l items := hl.push _
        have lS : l < s.heap.objs.size := by
          obtain ⟨o, ho, _⟩ := hl
          exact Heap.lt_size ho
        have tT : Shared.TypeIs { s with heap := s.heap.push (newSet led) } (.ref l) "tuple" := by
          obtain ⟨o, ho, hc, _⟩ := hl1
          exact ⟨o, ho, hc⟩
        have ne : (Value.type "tuple" == Value.type "dict") = false := by decide
        unfold Builtin.«set.__init__» noKeywords Builtin.Frozenset.updateFrom
        generalize hPI : pyIter = PI
        wp_walk
        subst hPI
        refine wpAny_pyIter_tuple hl1 (wpAny_bind (wpAny_runValue ?_))
        have e1 : (s.heap.push (newSet led)).objs.size = s.heap.objs.size + 1 := Heap.size_push _ _
        have n1 : l ≠ (s.heap.push (newSet led)).objs.size := by rw [e1]; exact Nat.ne_of_lt (Nat.lt_succ_of_lt lS)
        have n2 : s.heap.objs.size ∉ [(s.heap.push (newSet led)).objs.size, l] := by
          rw [e1]; simp only [List.mem_cons, List.not_mem_nil, or_false, not_or]; exact ⟨Nat.ne_of_lt (Nat.lt_succ_self _), Nat.ne_of_gt lS⟩
        have hv : ∀ (i : Nat) (v : Value), items[i]? = some v → ∃ t, v = .str (xs.getD i Str.empty) t := fun i v q => SS.strs_at hi i v (by rw [Array.getElem?_toList]; exact q)
        have hh3 : A.in1.in1.in1.handled = none := by simp [hh]
        refine loop_strs ((Walks.tuple hh3 _ l n1 items).toS) s.heap.objs.size n2 xs (by omega) hv (items.size - 0) 0 _ (by omega) (Nat.zero_le _) ⟨⟨_, Heap.get?_push_size _ rfl, rfl, rfl⟩, hl1.push _⟩ ?_ ?_
        · exact SetOf_congr ((setObjOf_fresh (knd := PySem.strKind prog w) led).setOf (Heap.get?_push_of_some _ gS) (by unfold scanBound; omega)) (fun _ => rfl) rfl
        · intro s' hm hS'
          obtain ⟨h', g', d', tk', os'⟩ := s'
          obtain rfl : g' = s.gens := hm.gens
          obtain rfl : d' = s.drawn := hm.drawn
          obtain rfl : os' = s.os := hm.os
          show wpAny _ _ _ _ _ _
          refine wpAny_pure ?_
          show wpAny _ _ (ret Value.none) _ _ _
          refine wpAny_pure ⟨rfl, h', tk', rfl, hS', fun b o e => hm.heap b o ?_ (Heap.get?_push_of_some _ (Heap.get?_push_of_some _ e))⟩
          have hb : b < s.heap.objs.size := Heap.lt_size e
          rw [e1]; simp only [List.mem_cons, List.not_mem_nil, or_false, not_or]; exact ⟨Nat.ne_of_lt hb, Nat.ne_of_lt (Nat.lt_succ_of_lt hb)⟩
      · cases r2 with
        | error e => exact h2
        | ok f2 =>
          cases f2 with
          | next => exact h2.elim
          | brk => exact h2.elim
          | cont => exact h2.elim
          | ret r =>
            obtain ⟨rfl, g, tk, rfl, hS, hk⟩ := h2
            repeat (any_goals (first | assumption | wp_step))
            exact hq _ _ hS hk
end
/-- len(set(e)), e a tuple of texts -/
def tLenSetT (K : PySem.W.Frag) (ta : TE) : TE := fun σ H Q => ta σ H fun v H1 => ∃ (a : Addr) (xs : List Str), v = .ref a ∧ SqT K H1 a (xs.map V.str) ∧ xs.length ≤ 1000 ∧ Q (.int ((metS xs xs.length).length : Nat)) H1
theorem pe_lenSetT {X : Cx} {a : Expr} {ta : TE} {p p2 q pos : Pos} (hc : X.calm = true) (hg : Gl X "len") (hm : X.mg "len" = none) (hg2 : Gl X "set") (hm2 : X.mg "set" = none) (ha : PE X a ta)
    (na : starEach [a] X.env = (false, eval a X.env) :: starEach [] X.env := by rfl) : PE X (.Call (.Name "len" p) [.Call (.Name "set" p2) [a] [] q] [] pos) (tLenSetT X.K ta) := by
  constructor
  intro pins s σ H Q I h
  apply Call_ (ld_blt I hg hm boot_len _)
  refine PyProof.Rows.callWith_builtin1 (PyProof.Rows.args_cons (Call_ (ld_blt I hg2 hm2 boot_set ?_)) rfl) rfl rfl
  refine PyProof.Rows.callWith_type1 (PyProof.Rows.args_cons (thn (ha.run pins s σ H _ I h) ?_) na) na rfl
  rintro v s1 ⟨y, H1, I1, r1, l, xs, rfl, hx, hl, q1⟩
  cases r1
  obtain ⟨its, r, pl, hz⟩ := I1.tuple hx
  refine PyProof.Rows.args_nil (set_of_tup (I1.ok.hd hc) pl (by simpa using strsAre_of r) hl fun g tk hS hk => PyProof.Rows.args_nil ?_)
  obtain ⟨o, es, ep, t, ho, hex, hd, _, _, _, hf, hn⟩ := hS
  have I2 : Inv X pins σ H1 { s1 with heap := g, toks := tk } := I1.kept hk
  have ll := metS_len xs xs.length
  exact call_len_set ho hex hd hf (by rw [hn] <;> omega) ⟨.int _, H1, I2.tok _, ⟨_, by rw [hn]⟩, q1⟩
end Pd

set_option maxHeartbeats 4000000
namespace Pd
open PySem PySem.Spec PyProof.Rows L2
/-! ### len(set(x)), x any text -/
section
variable {prog : Program} {w : World} {A : Around} {E : Value → Shared → Prop} {s : Shared}
set_option maxHeartbeats 6400000 in
theorem set_of_str {x : Str} {t : Tok} {xs : List Str} {Q : Value → Shared → Prop} (hh : A.handled = none) (hx : xs = x.cps.toList.map fun c => (⟨#[c]⟩ : Str)) (hn : xs.length ≤ 1000)
    (hq : ∀ (g : Heap) (tk : Nat), g.SetOf (PySem.strKind prog w) s.heap.objs.size (fun k' => (metS xs xs.length).any (· == k')) (metS xs xs.length).length → (∀ b o, s.heap.get? b = some o → g.get? b = some o) → Q (.ref s.heap.objs.size) { s with heap := g, toks := tk }) :
    wpAny (model prog w) A (call (.type "set") [.str x t]) Q E s := by
  obtain ⟨c, tl, hmro⟩ := PySem.F.called_set.mro
  have made := PySem.F.called_set.made
  have subs := PySem.F.called_set.sub
  have sz : xs.length = x.cps.size := by rw [hx, List.length_map, Array.length_toList]
  rw [sz] at hq
  refine wpAny_call (codeAny_of_tree ?_)
  show wpAny _ _ (callAny (.type "set") _) _ _ _
  refine wpAny_pure ⟨Code.quiet_builtin _ (by decide +kernel), codeAny_builtin PySem.F.entry_type_call ?_⟩
  rw [Around.under_plain (weight_type_call_type "set" [.str x t] []) rfl]
  have nt := PySem.F.called_set.notType
  have cc := PySem.F.called_set.canCreate
  have tc := PySem.F.typeCall_set_1 (.str x t)
  repeat (any_goals (first | assumption | wp_step))
  refine codeAny_mono (code_set_new_1 (.str x t) (E := E) (Q₁ := fun ob s1 => ∃ led, ob = .ref s.heap.objs.size ∧ s1 = { s with heap := s.heap.push (newSet led) }) fun led => ⟨led, rfl, rfl⟩) fun r s1 hr => ?_
  cases r with
  | error e => exact hr
  | ok fl =>
    cases fl with
    | next => exact hr.elim
    | brk => exact hr.elim
    | cont => exact hr.elim
    | ret ob =>
      obtain ⟨led, rfl, rfl⟩ := hr
      have gS : (s.heap.push (newSet led)).get? s.heap.objs.size = some (newSet led) := Heap.get?_push_size _ rfl
      have tS : Shared.TypeIs { s with heap := s.heap.push (newSet led) } (.ref s.heap.objs.size) "set" := ⟨_, gS, rfl⟩
      have li := PySem.F.called_set.init.lookup
      have bi := PySem.F.called_set.init.bind (.ref s.heap.objs.size)
      repeat (any_goals (first | assumption | wp_step))
      refine codeAny_mono (codeAny_call_builtin (R := wants (fun r s2 => r = .none ∧ ∃ g tk, s2 = { s with heap := g, toks := tk } ∧
          g.SetOf (PySem.strKind prog w) s.heap.objs.size (fun k' => (metS xs x.cps.size).any (· == k')) (metS xs x.cps.size).length ∧ (∀ b o, s.heap.get? b = some o → g.get? b = some o)) E)
          PySem.F.called_set.init.plain PySem.F.entry_set_init (check_set_init_1 tS ?_)) fun r2 s2 h2 => ?_
      · have s1 := sub_ss
        have s3 := sub_sf
        have tT : Shared.TypeIs { s with heap := s.heap.push (newSet led) } (.str x t) "str" := typeIs_str _ _ _
        have ne : (Value.type "str" == Value.type "dict") = false := by decide
        unfold Builtin.«set.__init__» noKeywords Builtin.Frozenset.updateFrom
        generalize hPI : pyIter = PI
        wp_walk
        subst hPI
        refine wpAny_pyIter_str fun ob St hW hSt => wpAny_bind (wpAny_runValue ?_)
        have e1 : (s.heap.push (newSet led)).objs.size = s.heap.objs.size + 1 := Heap.size_push _ _
        have n2 : s.heap.objs.size ∉ [(s.heap.push (newSet led)).objs.size] := by
          rw [e1]; simp only [List.mem_cons, List.not_mem_nil, or_false]; exact Nat.ne_of_lt (Nat.lt_succ_self _)
        have hv : ∀ (i : Nat) (v : Value), SignAt x i v → ∃ t, v = .str (xs.getD i Str.empty) t := fun i v ⟨c, u, q, e⟩ => by
          refine ⟨u, ?_⟩
          have z : xs[i]? = some (⟨#[c]⟩ : Str) := by
            rw [hx, List.getElem?_map]
            have : x.cps.toList[i]? = some c := by rw [Array.getElem?_toList]; exact q
            rw [this]; rfl
          rw [e, List.getD_eq_getElem?_getD, z]; rfl
        have hh3 : A.in1.in1.in1.handled = none := by simp [hh]
        refine loop_strs (hW _ hh3).toS s.heap.objs.size n2 xs (by omega) hv (x.cps.size - 0) 0 _ (by omega) (Nat.zero_le _) hSt ?_ ?_
        · exact SetOf_congr ((setObjOf_fresh (knd := PySem.strKind prog w) led).setOf (Heap.get?_push_of_some _ gS) (by unfold scanBound; omega)) (fun _ => rfl) rfl
        · intro s' hm hS'
          obtain ⟨h', g', d', tk', os'⟩ := s'
          obtain rfl : g' = s.gens := hm.gens
          obtain rfl : d' = s.drawn := hm.drawn
          obtain rfl : os' = s.os := hm.os
          show wpAny _ _ _ _ _ _
          refine wpAny_pure ?_
          show wpAny _ _ (ret Value.none) _ _ _
          refine wpAny_pure ⟨rfl, h', tk', rfl, hS', fun b o e => hm.heap b o ?_ (Heap.get?_push_of_some _ (Heap.get?_push_of_some _ e))⟩
          have hb : b < s.heap.objs.size := Heap.lt_size e
          rw [e1]; simp only [List.mem_cons, List.not_mem_nil, or_false, not_or]; exact ⟨Nat.ne_of_lt hb, Nat.ne_of_lt (Nat.lt_succ_of_lt hb)⟩
      · cases r2 with
        | error e => exact h2
        | ok f2 =>
          cases f2 with
          | next => exact h2.elim
          | brk => exact h2.elim
          | cont => exact h2.elim
          | ret r =>
            obtain ⟨rfl, g, tk, rfl, hS, hk⟩ := h2
            repeat (any_goals (first | assumption | wp_step))
            exact hq _ _ hS hk
end
def sgnsOf (x : Str) : List Str := x.cps.toList.map fun c => (⟨#[c]⟩ : Str)
def tLenSetX (ta : TE) : TE := fun σ H Q => ta σ H fun v H1 => ∃ x : Str, v = .str x ∧ x.cps.toList.length ≤ 1000 ∧ Q (.int ((metS (sgnsOf x) (sgnsOf x).length).length : Nat)) H1
theorem pe_lenSetX {X : Cx} {a : Expr} {ta : TE} {p p2 q pos : Pos} (hc : X.calm = true) (hg : Gl X "len") (hm : X.mg "len" = none) (hg2 : Gl X "set") (hm2 : X.mg "set" = none) (ha : PE X a ta)
    (na : starEach [a] X.env = (false, eval a X.env) :: starEach [] X.env := by rfl) : PE X (.Call (.Name "len" p) [.Call (.Name "set" p2) [a] [] q] [] pos) (tLenSetX ta) := by
  constructor
  intro pins s σ H Q I h
  apply Call_ (ld_blt I hg hm boot_len _)
  refine PyProof.Rows.callWith_builtin1 (PyProof.Rows.args_cons (Call_ (ld_blt I hg2 hm2 boot_set ?_)) rfl) rfl rfl
  refine PyProof.Rows.callWith_type1 (PyProof.Rows.args_cons (thn (ha.run pins s σ H _ I h) ?_) na) na rfl
  rintro v s1 ⟨y, H1, I1, r1, x, rfl, hl, q1⟩
  obtain ⟨t, rfl⟩ := r1
  refine PyProof.Rows.args_nil (set_of_str (I1.ok.hd hc) (xs := sgnsOf x) rfl (by unfold sgnsOf; rw [List.length_map]; exact hl) fun g tk hS hk => PyProof.Rows.args_nil ?_)
  obtain ⟨o, es, ep, t', ho, hex, hd, _, _, _, hf, hn⟩ := hS
  have I2 : Inv X pins σ H1 { s1 with heap := g, toks := tk } := I1.kept hk
  have ll := metS_len (sgnsOf x) (sgnsOf x).length
  have l2 : (sgnsOf x).length ≤ 1000 := by unfold sgnsOf; rw [List.length_map]; exact hl
  exact call_len_set ho hex hd hf (by rw [hn] <;> omega) ⟨.int _, H1, I2.tok _, ⟨_, by rw [hn]⟩, q1⟩
end Pd

set_option maxHeartbeats 4000000
/-! ### texts in their order, any number of them -/
namespace SrtO
open PySem PyProof.Rows Srt
section
variable {prog : Program} {w : World} {A : Around} {E : Value → Shared → Prop} {s : Shared}
def sv : Value → PySem.Str
  | .str y _ => y
  | _ => PySem.Str.empty
def ltT (a b : PySem.Str) : Bool := decide (a.cps.toList < b.cps.toList)
def ltSv (v u : Value) : Bool := ltT (sv v) (sv u)
theorem swo_T : Swo ltT := by
  refine ⟨fun x y h => ?_, fun x y z h1 h2 => ?_⟩
  · have a := of_decide_eq_true (show decide (x.cps.toList < y.cps.toList) = true from h)
    exact decide_eq_false fun b => List.lt_irrefl _ (List.lt_trans a b)
  · have a := of_decide_eq_false (show decide (y.cps.toList < x.cps.toList) = false from h1)
    have b := of_decide_eq_false (show decide (z.cps.toList < y.cps.toList) = false from h2)
    exact decide_eq_false (List.not_lt.mpr (List.le_trans (List.not_lt.mp a) (List.not_lt.mp b)))
theorem swo_str : Swo ltSv := ⟨fun x y h => swo_T.asym _ _ h, fun x y z h1 h2 => swo_T.tr _ _ _ h1 h2⟩
theorem strs_mem : ∀ {vs : List Value} {ns : List PySem.Str}, StrsAre vs ns → ∀ v ∈ vs, ∃ i t, v = Value.str i t
  | _, _, .nil, v, h => absurd h (by simp)
  | _, _, .cons n t r, v, h => (List.mem_cons.mp h).elim (fun e => ⟨n, t, e⟩) (strs_mem r v)
theorem strs_sv : ∀ {vs : List Value}, (∀ v ∈ vs, ∃ i t, v = Value.str i t) → StrsAre vs (vs.map sv)
  | [], _ => .nil
  | v :: vs, h => by
    obtain ⟨i, t, rfl⟩ := h v List.mem_cons_self
    exact .cons i t (strs_sv fun u hu => h u (List.mem_cons_of_mem _ hu))
theorem sv_strs : ∀ {vs : List Value} {ns : List PySem.Str}, StrsAre vs ns → vs.map sv = ns
  | _, _, .nil => rfl
  | _, _, .cons n t r => congrArg (n :: ·) (sv_strs r)
theorem strs_sortable {a : Addr} {vs : List Value} {ns : List PySem.Str} (hI : StrsAre vs ns) (h2 : 2 ≤ vs.length) : SortableO prog w A s a vs ltSv := by
  intro h' _
  refine ⟨oneType', fun Q E hq => ?_, fun p q hm hm' => ?_⟩
  · match vs, hI, h2 with
    | v1 :: v2 :: rest, hI, _ =>
      rw [keyKind_strs hI]
      exact wpAny_pure hq
    | [], _, h => exact absurd h (by decide)
    | [v], _, h => exact absurd h (by simp)
  · obtain ⟨a, t, e⟩ := strs_mem hI _ hm
    obtain ⟨b, u, e'⟩ := strs_mem hI _ hm'
    show wpAny (model prog w) A (keyLt' oneType' p.1 q.1) (fun r s' => s' = _ ∧ r = ltSv p.1 q.1) (fun _ _ => False) _
    rw [e, e', keyLt'_oneType]
    exact oneLt_str ⟨rfl, rfl⟩
/-- in ascending order -/
def SrtT (l : List PySem.Str) : Prop := Srtd ltT l
theorem strs_out {vs out : List Value} {ns : List PySem.Str} (hI : StrsAre vs ns) (hs : Srtd ltSv out) (hb : Stb ltSv out vs) : StrsAre out (out.map sv) ∧ (out.map sv).Perm ns ∧ SrtT (out.map sv) := by
  refine ⟨strs_sv fun v hv => strs_mem hI v (hb.perm.mem_iff.mp hv), ?_, List.pairwise_map.mpr hs⟩
  have q := hb.perm.map sv
  rw [sv_strs hI] at q
  exact q
/-- there is one such list -/
theorem ltT_eq {a b : PySem.Str} (h1 : ltT a b = false) (h2 : ltT b a = false) : a = b := by
  have e : a.cps.toList = b.cps.toList := List.le_antisymm (List.not_lt.mp (of_decide_eq_false h2)) (List.not_lt.mp (of_decide_eq_false h1))
  obtain ⟨⟨x⟩⟩ := a
  obtain ⟨⟨y⟩⟩ := b
  exact congrArg (fun l => (⟨⟨l⟩⟩ : PySem.Str)) e
theorem srtT_uniq : ∀ {l m : List PySem.Str}, SrtT l → SrtT m → l.Perm m → l = m
  | [], m, _, _, h => (List.Perm.eq_nil h.symm).symm
  | x :: l, [], _, _, h => absurd h.length_eq (by simp)
  | x :: l, y :: m, hl, hm, h => by
    have e : x = y := by
      rcases List.mem_cons.mp (h.mem_iff.mp (List.mem_cons_self (a := x) (l := l))) with e | hx
      · exact e
      rcases List.mem_cons.mp (h.mem_iff.mpr (List.mem_cons_self (a := y) (l := m))) with e | hy
      · exact e.symm
      exact ltT_eq (srtd_head hm x hx) (srtd_head hl y hy)
    subst e
    rw [srtT_uniq (List.pairwise_cons.mp hl).2 (List.pairwise_cons.mp hm).2 h.cons_inv]
end
end SrtO
namespace Pd
open PySem PySem.Spec PyProof.Rows L2
/-- sorted(xs), texts, any number of them -/
def rSortedT (K : PySem.W.Frag) : List V → Hp → VK → Prop := fun vs H Q => ∃ (a : Addr) (xs : List Str), vs = [V.ref a] ∧ SqL K H a (xs.map V.str) ∧
  ∀ (ys : List Str) (p : Addr), ys.Perm xs → SrtO.SrtT ys → H p = none → Q (.ref p) (upd H p (.lst (ys.map V.str)))
section
variable {X : Cx}
theorem cr_sortedT : CallR X (.builtin "sorted") (rSortedT X.K) := by
  intro pins s σ H vs us Q I r h
  obtain ⟨a, ns, rfl, hs, q⟩ := h
  obtain ⟨its, rv, hl, hz⟩ := I.list hs
  rw [Vals.ref1 r]
  have hi := rv.strs
  refine SrtO.sorted_ord SrtO.swo_str hl.isList (by rw [← rv.length]; exact hz) (fun h2 h1 a' _ _ => SrtO.strs_sortable hi h2) fun out h1 h2 => ?_
  obtain ⟨k1, k2, k3⟩ := SrtO.strs_out hi h1 h2
  obtain ⟨ep, he'⟩ := PyProof.Rows.sortedAll_at s.heap its out.toArray
  have hlen : ((out.map SrtO.sv).map V.str).length ≤ sizeLine := by
    rw [List.length_map, k2.length_eq]
    rw [List.length_map] at hz
    exact hz
  exact ⟨.ref _, upd H (s.heap.objs.size + 1) (.lst ((out.map SrtO.sv).map V.str)), I.laid (t' := s.toks) (fun _ _ => PyProof.Rows.sortedAll_old) (Nat.le_succ _) ⟨hlen, out, ep, vals_of_strs k1, he'⟩, rfl, q _ _ k2 k3 (I.hok.fresh (Nat.le_succ _))⟩
end
end Pd

set_option maxHeartbeats 4000000
namespace Pd
open PySem PySem.Spec PyProof.Rows L2
/-! ### sorted(d), d with keys of text, any number of them -/
def rSortedDT : List V → Hp → VK → Prop := fun xs H Q => ∃ (a : Addr) (kvs : List (Key × V)) (ks : List Str), xs = [.ref a] ∧ Rd H a (.dK kvs) ∧ kvs.map (·.1) = ks.map Sum.inr ∧ ks.length ≤ 10000 ∧
  ∀ ys p, ys.Perm ks → SrtO.SrtT ys → H p = none → Q (.ref p) (upd H p (.lst (ys.map V.str)))
theorem call_sortedDT {X : Cx} (hcalm : X.calm = true) : CallR X (.builtin "sorted") rSortedDT := by
  intro pins s σ H xs us Q I r q
  obtain ⟨a, kvs, ks, rfl, hd, hks, hz, q⟩ := q
  obtain ⟨u, rfl, rx⟩ := vals1 r
  cases rx
  obtain ⟨z, lo, vs, rel, dd⟩ := dk_rd I.hok hd
  obtain ⟨ep, hat⟩ := dd.dictAt
  have hkeys : vs.map (·.1) = ks.map Sum.inr := rel.keys.symm.trans hks
  have hl : vs.length = ks.length := by simpa using congrArg List.length hkeys
  have hS1 : ks.length ≤ sizeLine := by rw [sizeLine_eq]; omega
  refine Calls.call_function_entry PyProof.Rows.kind_sorted PyProof.Rows.plain_sorted PyProof.Rows.entry_sorted (PyProof.Rows.args_sorted1 _) ?_
  unfold Builtin.«sorted»
  refine wpAny_bind (m := checkCount "sorted" 1 1 _) (wpAny_pure (wpAny_bind (PySem.W.kdu_collect (A := X.A.in1) (PySem.W.kdl_dict (knd := mixKind X.prog X.w) (kvs := vs) (ep := ep) lo) (I.ok.hd hcalm) hat (by rw [hl]; exact hS1) fun h' tk acc hk hacc => ?_)))
  have hal : acc.toList.length = ks.length := by rw [Array.length_toList, hacc.1, hl]
  have hS : StrsAre acc.toList ks := strs_at hal fun j v e => by
    obtain ⟨k, x, e1, e2⟩ := hacc.2 j v (by rw [← Array.getElem?_toList]; exact e)
    have e3 : (ks.map (Sum.inr (α := Int)))[j]? = some k := by
      have z : (vs.map (·.1))[j]? = some k := by rw [List.getElem?_map, e1]; rfl
      rw [hkeys] at z
      exact z
    rw [List.getElem?_map] at e3
    obtain ⟨y, e4, e5⟩ := Option.map_eq_some_iff.mp e3
    subst e5
    obtain ⟨t, ev⟩ := Value.isStrOf_shape (x := y) (v := v) e2
    exact ⟨y, t, e4, ev⟩
  have I1 : Inv X pins σ H { s with heap := h', toks := tk } := I.kept hk
  refine wpAny_bind (wpAny_newList ?_ (by rw [hal]; exact hS1))
  have hoL : (h'.push (seqObj "list" acc.toList.toArray 0)).get? h'.objs.size = some (seqObj "list" acc.toList.toArray 0) := Heap.get?_push_size _ rfl
  show wpAny _ _ _ _ _ { s with heap := h'.push (seqObj "list" acc.toList.toArray 0), toks := tk }
  refine wpAny_bind (wpAny_holding (wpAny_call_entry PyProof.Rows.slot_list_sort ⟨_, hoL, rfl⟩ PyProof.Rows.entry_list_sort
    (SrtO.list_sort_ord (s := { s with heap := h'.push (seqObj "list" acc.toList.toArray 0), toks := tk }) SrtO.swo_str hoL (by rw [hal]; exact hS1) (fun h2 => SrtO.strs_sortable hS h2) fun out hs hb => ⟨_, rfl, ?_⟩)
    (PyProof.Rows.args_list_sort _)))
  obtain ⟨g1, g2, g3⟩ := SrtO.strs_out hS hs hb
  obtain ⟨e', he'⟩ := PyProof.Rows.sortedHeap_at (vs := acc.toList) (out := out.toArray) hoL
  have hlen : ((out.map SrtO.sv).map V.str).length ≤ sizeLine := by rw [List.length_map, g2.length_eq]; exact hS1
  refine wpAny_pure ⟨_, rfl, .ref h'.objs.size, upd H h'.objs.size (.lst ((out.map SrtO.sv).map V.str)), I1.laid (t' := tk) (fun b u e => ?_) (Nat.le_refl _) ⟨hlen, out, e', vals_of_strs g1, he'⟩, rfl, q _ _ g2 g3 (I1.hok.fresh (Nat.le_refl _))⟩
  have hb' : b < h'.objs.size := Heap.lt_size e
  rw [PyProof.Rows.sortedHeap_old (Nat.ne_of_lt hb') (by rw [size_push']; exact Nat.lt_succ_of_lt hb')]
  exact Heap.get?_push_of_some _ e
end Pd

set_option maxHeartbeats 4000000
namespace Pd
open PySem PySem.Spec PyProof.Rows L2 SX
/-! ### the class Shelf: the short methods -/
structure Scl (K : PySem.W.Frag) (mg : Str → Option Value) (CS : Addr) : Prop where
  cl : Cls K CS
  n1 : NoAttr K CS "_doors"
  n2 : NoAttr K CS "_table"
  n3 : NoAttr K CS "_turn"
  n4 : NoAttr K CS "_past"
  mgC : mg "Shelf" = some (.ref CS)
def spCheckT : Sp := fun vs H Q _ => ∃ l, vs = [.str (S l)] ∧ Good l ∧ ∀ H', Ext H H' → Q .non H'
def txV (ts : List (List Nat)) : List V := ts.map fun t => V.str (S t)
def spCheckTs (K : PySem.W.Frag) : Sp := fun vs H Q _ => ∃ a ts, vs = [.ref a] ∧ H a = some (.lst (txV ts)) ∧ (∀ t ∈ ts, Good t) ∧ ∀ H', Ext H H' → Q .non H'
def spFormPut (K : PySem.W.Frag) (C CD CS : Addr) : Sp := fun vs H Q _ => ∃ s d t n p g l, vs = [.ref s, .str (S l)] ∧ InsAt CS H s d t n p ∧ DAt K C CD H d g ∧ Good l ∧ ∀ H', Ext H H' → Q (.str (S (mks g.s1 l))) H'
def spEnter (CS : Addr) : Sp := fun vs H Q _ => ∃ s dx d t n p f l kvs, vs = [.ref s, .str (S f), .str (S l)] ∧ H s = some (.ins CS dx (shF d t n p)) ∧ H t = some (.dK kvs) ∧ kvs.length < sizeLine ∧
  ∀ tp, H tp = none → Q .non (upd (upd (upd H tp (.tup [.int (n : Nat), .str (S l)])) t (.dK (putK kvs (kyS f) (.ref tp)))) s (.ins CS dx (shF d t (n + 1) p)))
def spNote (CS : Addr) : Sp := fun vs H Q _ => ∃ s d t n p la ls xs, vs = [.ref s, .ref la, .ref ls] ∧ InsAt CS H s d t n p ∧ H p = some (.lst xs) ∧ xs.length < sizeLine ∧
  ∀ tp, H tp = none → Q .non (upd (upd H tp (.tup [.ref d, .ref t, .ref la, .ref ls])) p (.lst (xs ++ [.ref tp])))
def spSLen (CS : Addr) : Sp := fun vs H Q _ => ∃ s d t n p R, vs = [.ref s] ∧ InsAt CS H s d t n p ∧ TabAt H t R ∧ Q (.int (R.length : Nat)) H
def spSForms (CS : Addr) : Sp := fun vs H Q _ => ∃ s d t n p R, vs = [.ref s] ∧ InsAt CS H s d t n p ∧ TabAt H t R ∧ R.length ≤ 10000 ∧ ∀ ys a, ys.Perm ((forms R).map S) → SrtO.SrtT ys → H a = none → Q (.ref a) (upd H a (.lst (ys.map V.str)))
def spSFirst (CS : Addr) : Sp := fun vs H Q _ => ∃ s d t n p R r, vs = [.ref s, .str (S r.1)] ∧ InsAt CS H s d t n p ∧ TabAt H t R ∧ (forms R).Nodup ∧ r ∈ R ∧ Q (.str (S r.2.2)) H
def spSIn (K : PySem.W.Frag) (C CD CS : Addr) : Sp := fun vs H Q _ => ∃ s d t n p g R l, vs = [.ref s, .str (S l)] ∧ InsAt CS H s d t n p ∧ DAt K C CD H d g ∧ TabAt H t R ∧ (forms R).Nodup ∧ Good l ∧ ∀ H', Ext H H' → Q (.bl (decide (mks g.s2 l ∈ forms R))) H'
def spSInit (CS : Addr) : Sp := fun vs H Q _ => ∃ s dx d, vs = [.ref s, .ref d] ∧ H s = some (.ins CS dx []) ∧ ∀ t p H', H t = none → H p = none → p ≠ t → t ≠ s → p ≠ s → H' s = some (.ins CS dx (shF d t 0 p)) → H' t = some (.dK []) → H' p = some (.lst []) → (∀ b o, b ≠ s → H b = some o → H' b = some o) → Q .non H'
section
variable {P : Program} {w : World} {K : PySem.W.Frag} {mg : Str → Option Value} {base : Heap}
theorem ok_checkT {f : Addr} {fd : FuncData} (F : Fun K "_check_text" "_check_text" sCheckText f fd) (G : Cl P w K mg base 1 "is_text" spIsText) : FnOk P w K mg base CX0 2 f fd ["value"] spCheckT := by
  refine F.ok scCheckText (fun vs H Q E h => ?_) (fun cdv A outer s H vs Q E hr h => ?_)
  · obtain ⟨l, rfl, _⟩ := h
    rfl
  · obtain ⟨l, rfl, hG, q⟩ := h
    refine ⟨_, pss_one (ps_if (pt_not (pt_val (pe_cl G hr (by decide) rfl (pa_cons (pv 0) pa_nil)))) pss_never pss_nil), ?_⟩
    refine ⟨_, rfl, l, rfl, by have := hG.2; omega, fun H2 k2 => ⟨_, rfl, ?_⟩⟩
    rw [goodB_of hG]
    exact iteF (q H2 k2)
theorem ok_checkTs {f : Addr} {fd : FuncData} (F : Fun K "_check_texts" "_check_texts" sCheckTexts f fd) (T : Nms mg) (ml : mg "list" = none) (G : Cl P w K mg base 2 "_check_text" spCheckT) : FnOk P w K mg base CX0 3 f fd ["value"] (spCheckTs K) := by
  refine F.ok scCheckTexts (fun vs H Q E h => ?_) (fun cdv A outer s H vs Q E hr h => ?_)
  · obtain ⟨l, ts, rfl, _⟩ := h
    rfl
  · obtain ⟨l, ts, rfl, hl, hG, q⟩ := h
    have nd := scCheckTexts.nd
    refine ⟨_, PSs.nox (pss_cons (ps_if (pt_not (pt_val (pe_callB call_isi (by rfl) T.isi (by decide +kernel) (pa_cons (pv 0) (pa_cons (pe_bltn (v := .ty "list") (by rfl) ml (by decide +kernel) rfl) pa_nil))))) pss_never pss_nil)
      (pss_one (ps_for PassesOwn.never rfl (pi_list (pv 0)) (pg_name (i := 1) nd rfl (Or.inl rfl)) (pss_one (ps_expr (pe_cl G hr (by decide) rfl (pa_cons (pv 1) pa_nil))))))), ?_⟩
    refine ⟨_, rfl, _, _, _, _, true, rfl, .ty "list", .base (.lst hl), kit_ty (by decide +kernel), true, rfl, iteF ?_⟩
    refine ⟨_, rfl, l, rfl, ⟨_, SqL.of hl⟩, for_list (xs := txV ts) (fun i σ H' => ∃ u, σ = [some (.ref l), u] ∧ Ext H H') ⟨none, rfl, .refl⟩ (fun i σ H' _ p => by
      obtain ⟨u, _, k⟩ := p
      exact SqL.of (k l _ hl)) ?_ ?_⟩
    · rintro i x σ H2 hx ⟨u, rfl, k2⟩
      unfold txV at hx
      rw [List.getElem?_map] at hx
      obtain ⟨t, ht, rfl⟩ := Option.map_eq_some_iff.mp hx
      exact ⟨_, rfl, t, rfl, hG t (List.mem_of_getElem? ht), fun H3 k3 => ⟨_, rfl, k2.trans k3⟩⟩
    · rintro σ H2 ⟨u, rfl, k2⟩
      exact q H2 k2
theorem ok_sformPut {f C CD CS : Addr} {fd : FuncData} (F : Fun K "_form_put" "Shelf._form_put" sShelfFormPut f fd) (Z : Scl K mg CS) (Y : Drs P w K mg base CD) (X : FolS P w K mg base C) (G : Cl P w K mg base 3 "made_by_steps" (spMadeSteps K)) : FnOk P w K mg base CX0 4 f fd ["self", "text"] (spFormPut K C CD CS) := by
  refine F.ok scShelfFormPut (fun vs H Q E h => ?_) (fun cdv A outer s H vs Q E hr h => ?_)
  · obtain ⟨s, d, t, n, p, g, l, rfl, _⟩ := h
    rfl
  · obtain ⟨s, d, t, n, p, g, l, rfl, ⟨dx, e⟩, D, hG, q⟩ := h
    obtain ⟨g1, fd1, m1, F1, b1⟩ := Y.put
    obtain ⟨gs, fds, ms, FS, bS⟩ := X.steps
    refine ⟨_, pss_one (ps_ret (pe_cl G hr (by decide) rfl (pa_cons (pe_meth0 (pe_meth0 (pe_fld (pv 0) rfl) Y.z.cl m1 F1 (hr.mono (by decide)) b1 .nil pass0) X.cl ms FS (hr.mono (by decide)) bS .nil pass0) (pa_cons (pv 1) pa_nil)))), ?_⟩
    obtain ⟨dd, ed⟩ := D.ins
    obtain ⟨⟨d1, e1⟩, R1, h6⟩ := id D.f1
    exact ⟨_, rfl, s, CS, dx, _, _, rfl, e, Z.cl, Z.n1, rfl, d, dd, _, rfl, ed, rfl, d, dd, _, _, rfl, ed, rfl, g.o1, d1, _, rfl, e1, rfl, g.o1, g.r1, g.s1, rfl, D.f1, _, rfl, g.r1, g.s1, l, rfl, R1, hG, q⟩
theorem ok_senter {f CS : Addr} {fd : FuncData} (F : Fun K "_enter" "Shelf._enter" sShelfEnter f fd) (Z : Scl K mg CS) : FnOk P w K mg base CX0 1 f fd ["self", "form", "text"] (spEnter CS) := by
  refine F.ok scShelfEnter (fun vs H Q E h => ?_) (fun cdv A outer s H vs Q E hr h => ?_)
  · obtain ⟨s, dx, d, t, n, p, f, l, kvs, rfl, _⟩ := h
    rfl
  · obtain ⟨s, dx, d, t, n, p, f, l, kvs, rfl, e, et, hz, q⟩ := h
    have hu := hu_of hr
    refine ⟨_, pss_cons (ps_dput hu (pe_fld (pv 0) rfl) (pv 1) (pe_tup (pa_cons (pe_fld (pv 0) rfl) (pa_cons (pv 2) pa_nil))) rfl)
      (pss_one (ps_fldaug (pv 0) pe_int in_add)), ?_⟩
    have st : s ≠ t := by rintro rfl; rw [e] at et; cases et
    refine ⟨_, rfl, s, CS, dx, _, _, rfl, e, Z.cl, Z.n3, rfl, _, rfl, by show 2 ≤ sizeLine; decide, fun tp hp => ?_⟩
    have nt : t ≠ tp := ne_of_none et hp
    have ns : s ≠ tp := ne_of_none e hp
    refine ⟨_, rfl, s, CS, dx, _, _, rfl, (by rw [upd_ne ns]; exact e), Z.cl, Z.n2, rfl, _, rfl, t, _, rfl, DPut.k (k := kyS f) (by rw [upd_ne nt]; exact et) hz, ?_⟩
    have e3 : (upd (upd H tp (.tup [V.int (n : Nat), V.str (S l)])) t (.dK (putK kvs (kyS f) (.ref tp)))) s = some (.ins CS dx (shF d t n p)) := by rw [upd_ne st, upd_ne ns]; exact e
    refine ⟨_, rfl, s, CS, dx, _, _, rfl, e3, Z.cl, Z.n3, rfl, _, _, rfl, rfl, dx, _, e3, by show 4 < 1000; decide, ?_⟩
    exact q tp hp
theorem ok_snote {f CS : Addr} {fd : FuncData} (F : Fun K "_note" "Shelf._note" sShelfNote f fd) (Z : Scl K mg CS) : FnOk P w K mg base CX0 1 f fd ["self", "added", "struck"] (spNote CS) := by
  refine F.ok scShelfNote (fun vs H Q E h => ?_) (fun cdv A outer s H vs Q E hr h => ?_)
  · obtain ⟨s, d, t, n, p, la, ls, xs, rfl, _⟩ := h
    rfl
  · obtain ⟨s, d, t, n, p, la, ls, xs, rfl, ⟨dx, e⟩, hp, hz, q⟩ := h
    refine ⟨_, pss_one (ps_expr (pe_bm PySem.F.plainAttrs_list PySem.F.slot_list_append PySem.F.type_list_append mt_append (pe_fld (pv 0) rfl) (pa_cons (pe_tup (pa_cons (pe_fld (pv 0) rfl) (pa_cons (pe_fld (pv 0) rfl) (pa_cons (pv 1) (pa_cons (pv 2) pa_nil))))) pa_nil))), ?_⟩
    refine ⟨_, rfl, s, CS, dx, _, _, rfl, e, Z.cl, Z.n4, rfl, .inl ⟨rfl, _, SqL.of hp⟩, _, rfl, s, CS, dx, _, _, rfl, e, Z.cl, Z.n1, rfl, _, rfl, s, CS, dx, _, _, rfl, e, Z.cl, Z.n2, rfl, _, rfl, _, rfl, by show 4 ≤ sizeLine; decide, fun tp htp => ?_⟩
    exact ⟨p, _, _, rfl, rfl, by rw [upd_ne (ne_of_none hp htp)]; exact hp, hz, q tp htp⟩
theorem ok_slen {f CS : Addr} {fd : FuncData} (F : Fun K "__len__" "Shelf.__len__" sShelfLen f fd) (T : Nms mg) (Z : Scl K mg CS) : FnOk P w K mg base CX0 1 f fd ["self"] (spSLen CS) := by
  refine F.ok scShelfLen (fun vs H Q E h => ?_) (fun cdv A outer s H vs Q E hr h => ?_)
  · obtain ⟨s, d, t, n, p, R, rfl, _⟩ := h
    rfl
  · obtain ⟨s, d, t, n, p, R, rfl, ⟨dx, e⟩, ⟨kvs, R', et, r, pm⟩, q⟩ := h
    refine ⟨_, pss_one (ps_ret (pe_callB call_lenD (by rfl) T.len PySem.boot_len (pa_cons (pe_fld (pv 0) rfl) pa_nil))), ?_⟩
    refine ⟨_, rfl, s, CS, dx, _, _, rfl, e, Z.cl, Z.n2, rfl, t, kvs, rfl, et, ?_⟩
    rw [r.len, pm.length_eq]
    exact q
theorem ok_sforms {f CS : Addr} {fd : FuncData} (F : Fun K "forms" "Shelf.forms" sShelfForms f fd) (mS : mg "sorted" = none) (Z : Scl K mg CS) : FnOk P w K mg base CX0 1 f fd ["self"] (spSForms CS) := by
  refine F.ok scShelfForms (fun vs H Q E h => ?_) (fun cdv A outer s H vs Q E hr h => ?_)
  · obtain ⟨s, d, t, n, p, R, rfl, _⟩ := h
    rfl
  · obtain ⟨s, d, t, n, p, R, rfl, ⟨dx, e⟩, ⟨kvs, R', et, r, pm⟩, hz, q⟩ := h
    refine ⟨_, pss_one (ps_ret (pe_callB (call_sortedDT rfl) (by rfl) mS (by decide +kernel) (pa_cons (pe_fld (pv 0) rfl) pa_nil))), ?_⟩
    refine ⟨_, rfl, s, CS, dx, _, _, rfl, e, Z.cl, Z.n2, rfl, t, kvs, (forms R').map S, rfl, .inl et, ?_, ?_, fun ys a hp hs ha => q ys a (hp.trans ((show (forms R').Perm (forms R) from List.Perm.map (fun r : Row3 => r.1) pm).map S)) hs ha⟩
    · rw [r.keys, List.map_map]; rfl
    · rw [List.length_map]; show (R'.map _).length ≤ _; rw [List.length_map, pm.length_eq]; exact hz
theorem ok_sfirst {f CS : Addr} {fd : FuncData} (F : Fun K "first_text" "Shelf.first_text" sShelfFirstText f fd) (T : Nms mg) (Z : Scl K mg CS) : FnOk P w K mg base CX0 1 f fd ["self", "form"] (spSFirst CS) := by
  refine F.ok scShelfFirstText (fun vs H Q E h => ?_) (fun cdv A outer s H vs Q E hr h => ?_)
  · obtain ⟨s, d, t, n, p, R, r, rfl, _⟩ := h
    rfl
  · obtain ⟨s, d, t, n, p, R, r, rfl, ⟨dx, e⟩, tb, nd, hr0, q⟩ := h
    have hu := hu_of hr
    refine ⟨_, PSs.nox (pss_cons (ps_if (PW.pt (pw_or (pt_not (pt_val (pe_callB call_isi (by rfl) T.isi (by decide +kernel) (pa_cons (pv 1) (pa_cons (pe_bltn (v := .ty "str") (by rfl) T.str (by decide +kernel) rfl) pa_nil))))) (pw_or1 (pt_cmp (pc_dnotin hu (pv 1) (pe_fld (pv 0) rfl)))))) pss_never pss_nil)
      (pss_one (ps_ret (pe_ix ix_tup (pe_dget hu (pe_fld (pv 0) rfl) (pv 1) (fun _ _ => rfl)) pe_int (fun _ _ => rfl))))), ?_⟩
    obtain ⟨kvs, et, _, _, hs⟩ := tb.look (g := r.1) nd
    obtain ⟨tp, hv, htp⟩ := hs r hr0 rfl
    refine ⟨_, rfl, _, _, _, _, true, rfl, .ty "str", .base (.str _), kit_ty (by decide +kernel), true, rfl, ?_⟩
    refine ⟨_, rfl, _, rfl, s, CS, dx, _, _, rfl, e, Z.cl, Z.n2, rfl, t, _, rfl, DGet.k (k := kyS r.1) et, _, rfl, ?_⟩
    rw [hv]
    refine iteF ⟨_, rfl, s, CS, dx, _, _, rfl, e, Z.cl, Z.n2, rfl, _, rfl, t, .ref tp, rfl, ?_, ?_⟩
    · have z := DGet.k (k := kyS r.1) et
      rw [hv] at z
      exact z
    · exact ⟨tp, _, 1, _, rfl, rfl, SqT.of htp, rfl, q⟩
theorem ok_sin {f C CD CS : Addr} {fd : FuncData} (F : Fun K "__contains__" "Shelf.__contains__" sShelfContains f fd) (Z : Scl K mg CS) (Y : Drs P w K mg base CD) (X : FolS P w K mg base C) (G1 : Cl P w K mg base 1 "is_text" spIsText) (G : Cl P w K mg base 3 "made_by_steps" (spMadeSteps K)) : FnOk P w K mg base CX0 4 f fd ["self", "x"] (spSIn K C CD CS) := by
  refine F.ok scShelfContains (fun vs H Q E h => ?_) (fun cdv A outer s H vs Q E hr h => ?_)
  · obtain ⟨s, d, t, n, p, g, R, l, rfl, _⟩ := h
    rfl
  · obtain ⟨s, d, t, n, p, g, R, l, rfl, ⟨dx, e⟩, D, tb, nd, hG, q⟩ := h
    have hu := hu_of hr
    obtain ⟨g1, fd1, m1, F1, b1⟩ := Y.find
    obtain ⟨gs, fds, ms, FS, bS⟩ := X.steps
    refine ⟨_, pss_one (ps_ret (pe_and (pe_cl G1 hr (by decide) rfl (pa_cons (pv 1) pa_nil)) (pe_one (pe_cmp (pc_din hu (pe_cl G hr (by decide) rfl (pa_cons (pe_meth0 (pe_meth0 (pe_fld (pv 0) rfl) Y.z.cl m1 F1 (hr.mono (by decide)) b1 .nil pass0) X.cl ms FS (hr.mono (by decide)) bS .nil pass0) (pa_cons (pv 1) pa_nil))) (pe_fld (pv 0) rfl)) rfl)))), ?_⟩
    refine ⟨_, rfl, l, rfl, by have := hG.2; omega, fun H2 k2 => ⟨_, rfl, ?_⟩⟩
    rw [goodB_of hG]
    refine iteT ?_
    have D2 := D.ext k2
    obtain ⟨dd, ed⟩ := D2.ins
    obtain ⟨⟨d1, e1⟩, R1, h6⟩ := id D2.f2
    refine ⟨_, rfl, s, CS, dx, _, _, rfl, k2 _ _ e, Z.cl, Z.n1, rfl, d, dd, _, rfl, ed, rfl, d, dd, _, _, rfl, ed, rfl, g.o2, d1, _, rfl, e1, rfl, g.o2, g.r2, g.s2, rfl, D2.f2, _, rfl, g.r2, g.s2, l, rfl, R1, hG, fun H3 k3 => ?_⟩
    obtain ⟨kvs, et, _, hn, hs⟩ := ((tb.ext k2).ext k3).look (g := mks g.s2 l) nd
    refine ⟨_, rfl, s, CS, dx, _, _, rfl, k3 _ _ (k2 _ _ e), Z.cl, Z.n2, rfl, t, _, rfl, DGet.k (k := kyS (mks g.s2 l)) et, ?_⟩
    have q := q H3 (k2.trans k3)
    by_cases hm : mks g.s2 l ∈ forms R
    · rw [decide_eq_true hm] at q
      obtain ⟨r, hr1, hr2⟩ := List.mem_map.mp hm
      obtain ⟨tp, hv, _⟩ := hs r hr1 hr2
      rw [hv]
      exact q
    · rw [decide_eq_false hm] at q
      rw [hn hm]
      exact q
theorem ok_sinit {f CS : Addr} {fd : FuncData} (F : Fun K "__init__" "Shelf.__init__" sShelfInit f fd) (Z : Scl K mg CS) : FnOk P w K mg base CX0 1 f fd ["self", "doors"] (spSInit CS) := by
  refine F.ok scShelfInit (fun vs H Q E h => ?_) (fun cdv A outer s H vs Q E hr h => ?_)
  · obtain ⟨s, dx, d, rfl, _⟩ := h
    rfl
  · obtain ⟨s, dx, d, rfl, e, q⟩ := h
    refine ⟨_, pss_cons (ps_fld (pv 0) (pv 1) rfl) (pss_cons (ps_fld (pv 0) pe_dnewK rfl) (pss_cons (ps_fld (pv 0) pe_int rfl) (pss_one (ps_fld (pv 0) (pe_lst pa_nil) rfl)))), ?_⟩
    refine ⟨_, rfl, _, rfl, s, CS, dx, _, rfl, e, Z.cl, Z.n1, by show 0 < 1000; decide, fun t ht => ?_⟩
    have ts : t ≠ s := by rintro rfl; rw [upd_same] at ht; cases ht
    rw [upd_ne ts] at ht
    refine ⟨_, rfl, s, CS, dx, _, rfl, by rw [upd_ne (Ne.symm ts), upd_same], Z.cl, Z.n2, by show 1 < 1000; decide, ?_⟩
    refine ⟨_, rfl, s, CS, dx, _, rfl, upd_same, Z.cl, Z.n3, by show 2 < 1000; decide, by show 0 ≤ sizeLine; decide, fun p hp => ?_⟩
    have ps : p ≠ s := by rintro rfl; rw [upd_same] at hp; cases hp
    rw [upd_ne ps, upd_ne ps] at hp
    have pt : p ≠ t := by rintro rfl; rw [upd_same] at hp; cases hp
    rw [upd_ne pt, upd_ne ps] at hp
    refine ⟨_, rfl, s, CS, dx, _, rfl, by rw [upd_ne (Ne.symm ps), upd_same], Z.cl, Z.n4, by show 3 < 1000; decide, ?_⟩
    refine q t p _ ht hp pt ts ps upd_same ?_ ?_ ?_
    · rw [upd_ne ts, upd_ne (Ne.symm pt), upd_ne ts, upd_ne ts, upd_same]
    · rw [upd_ne ps, upd_same]
    · intro b o nb hb
      have bt : b ≠ t := ne_of_none hb ht
      have bp : b ≠ p := ne_of_none hb hp
      rw [upd_ne nb, upd_ne bp, upd_ne nb, upd_ne nb, upd_ne bt, upd_ne nb]
      exact hb
end
end Pd

set_option maxHeartbeats 4000000
namespace Pd
open PySem PySem.Spec PyProof.Rows L2 SX
/-! ### a method of a class of the program's own, by its name -/
structure Mt (P : Program) (w : World) (K : PySem.W.Frag) (mg : Str → Option Value) (base : Heap) (C : Addr) (k : Nat) (m : Str) (ps : List Str) (sp : Sp) : Prop where
  ex : ∃ (g : Addr) (fd : FuncData), Meth K C m g ∧ FnOk P w K mg base CX0 k g fd ps sp ∧ Binds K fd ps []
section
variable {X : Cx} {k j : Nat} {C : Addr} {m : Str} {ps : List Str} {sp : Sp} {o e : Expr} {es : List Expr} {ta : TE} {t : TA} {apos pos : Pos}
theorem pe_mt (M : Mt X.prog X.w X.K X.mg X.base C k m ps sp) (hr : Room j X.A) (hk : k ≤ j) (c : Cls X.K C) (he : PE X o ta) (ha : PA X (e :: es) t) {pl : Sem Bool}
    (hst : starEach (e :: es) X.env = (false, eval e X.env) :: starEach es X.env := by rfl) (hpl : (backTo pos (starEach es X.env)).any (·.1) = false := by rfl)
    (ht : eval (.Call (.Attribute o m apos) (e :: es) [] pos) X.env = (do
      let ov ← eval o X.env
      standAt apos.atName
      let (f, first) ← holding [ov] (getMethod ov m pl)
      callWith pos f first (backTo pos (starEach (e :: es) X.env)) (backToKw pos (keywordEach [] X.env))) := by rfl) :
    PE X (.Call (.Attribute o m apos) (e :: es) [] pos) (tMeth C m sp [] E0 ta t) := by
  obtain ⟨g, fd, hm, F, b⟩ := M.ex
  exact pe_meth he c hm F (hr.mono hk) b .nil pass0 ha hst hpl ht
theorem pe_mt0 (M : Mt X.prog X.w X.K X.mg X.base C k m ps sp) (hr : Room j X.A) (hk : k ≤ j) (c : Cls X.K C) (he : PE X o ta) {pl : Sem Bool}
    (ht : eval (.Call (.Attribute o m apos) [] [] pos) X.env = (do
      let ov ← eval o X.env
      standAt apos.atName
      let (f, first) ← holding [ov] (getMethod ov m pl)
      callWith pos f first (backTo pos (starEach [] X.env)) (backToKw pos (keywordEach [] X.env))) := by rfl) :
    PE X (.Call (.Attribute o m apos) [] [] pos) (tMeth C m sp [] E0 ta tNil) := by
  obtain ⟨g, fd, hm, F, b⟩ := M.ex
  exact pe_meth0 he c hm F (hr.mono hk) b .nil pass0 ht
end
theorem KpL.at_ {js : List Addr} {l : Addr} {H H' : Hp} {o : HO} (a : KpL js H H') (hl : H l = none) : KpL js H (L2.upd H' l o) := fun b u n e => by
  rw [upd_ne (ne_of_none e hl)]; exact a b u n e
theorem KpL.in_ {js : List Addr} {l : Addr} {H H' : Hp} {o : HO} (a : KpL js H H') (hl : l ∈ js) : KpL js H (L2.upd H' l o) := fun b u n e => by
  rw [upd_ne (fun z => n (by rw [z]; exact hl))]; exact a b u n e
/-- a shelf behind a call that puts, or strikes -/
def Sh.next (x : Sh) (q : Pst) (R : List Row3) (n : Nat) : Sh := { x with R := R, n := n, st := q :: x.st }
theorem own_next {s : Addr} {x : Sh} {q : Pst} {R : List Row3} {n : Nat} (e : q.t = x.t) {a : Addr} : a ∈ own s (x.next q R n) ↔ a ∈ own s x ∨ a = q.la ∨ a = q.ls := by
  have z : own s (x.next q R n) = s :: x.t :: x.p :: ([q.la, q.ls, q.t] ++ x.st.flatMap fun q => [q.la, q.ls, q.t]) := rfl
  rw [z, e]
  unfold own
  simp only [List.mem_cons, List.mem_append, List.mem_nil_iff, or_false]
  constructor
  · rintro (h | h | h | (h | h | h) | h)
    · exact .inl (.inl h)
    · exact .inl (.inr (.inl h))
    · exact .inl (.inr (.inr (.inl h)))
    · exact .inr (.inl h)
    · exact .inr (.inr h)
    · exact .inl (.inr (.inl h))
    · exact .inl (.inr (.inr (.inr h)))
  · rintro ((h | h | h | h) | h | h)
    · exact .inl h
    · exact .inr (.inl h)
    · exact .inr (.inr (.inl h))
    · exact .inr (.inr (.inr (.inr h)))
    · exact .inr (.inr (.inr (.inl (.inl h))))
    · exact .inr (.inr (.inr (.inl (.inr (.inl h)))))
/-- what is told of the past of such a call -/
structure PastOf (H : Hp) (x : Sh) (q : Pst) : Prop where
  R : q.R = x.R
  d : q.d = x.d
  g : q.g = x.g
  t : q.t = x.t
  la : H q.la = none
  ls : H q.ls = none
theorem Stk.pst {K : PySem.W.Frag} {C CD : Addr} {H : Hp} {n : Nat} : ∀ {ps : List Pst} {t : Addr} {R : List Row3}, Stk K C CD H t R n ps → ∀ q ∈ ps, PstAt K C CD H q
  | _, _, _, .nil, _, z => nomatch z
  | _, _, _, .same h e r ok t, q', z => by
    rcases List.mem_cons.mp z with rfl | z
    · exact h
    · exact t.pst _ z
  | _, _, _, .other h e1 e2 tb ok ne t, q', z => by
    rcases List.mem_cons.mp z with rfl | z
    · exact h
    · exact t.pst _ z
theorem Stk.tabk {K : PySem.W.Frag} {C CD : Addr} {H : Hp} {n : Nat} : ∀ {ps : List Pst} {t : Addr} {R : List Row3}, Stk K C CD H t R n ps → (∃ kvs, H t = some (.dK kvs)) → ∀ q ∈ ps, ∃ kvs, H q.t = some (.dK kvs)
  | _, _, _, .nil, _, _, z => nomatch z
  | _, _, _, .same h e r ok t, ht, q', z => by
    rcases List.mem_cons.mp z with rfl | z
    · rw [e]; exact ht
    · exact t.tabk ht _ z
  | _, _, _, .other (q := q) h e1 e2 tb ok ne t, ht, q', z => by
    have hq : ∃ kvs, H q.t = some (.dK kvs) := by
      obtain ⟨kvs, _, e, _⟩ := tb
      exact ⟨kvs, e⟩
    rcases List.mem_cons.mp z with rfl | z
    · exact hq
    · exact t.tabk hq _ z
/-- behind a note -/
theorem ShAt.noted {K : PySem.W.Frag} {C CD CS : Addr} {H H4 : Hp} {s : Addr} {x : Sh} (S0 : ShAt K C CD CS H s x) {n : Nat} {R2 : List Row3} {la ls tp : Addr} {added : List (List Nat)} {struck : List (Row3 × Addr × Addr)} {xs : List V} (k : KpL [s, x.t] H H4) (I : InsAt CS H4 s x.d x.t n x.p) (T : TabAt H4 x.t R2) (ok : RowsOk R2 n) (ln : x.n ≤ n)
    (Hla : H la = none) (Hls : H ls = none) (Htp : H tp = none) (ha : H4 la = some (.lst (added.map fun g => V.str (S g)))) (hl : H4 ls = some (.lst (struck.map fun x => V.ref x.2.1))) (pr : ∀ y ∈ struck, H4 y.2.1 = some (.tup [.str (S y.1.1), .ref y.2.2]) ∧ H4 y.2.2 = some (.tup [.int (y.1.2.1 : Nat), .str (S y.1.2.2)]))
    (htp : H4 tp = some (.tup [.ref x.d, .ref x.t, .ref la, .ref ls])) (rv : Rev ⟨tp, x.d, x.g, x.t, la, ls, added, struck, x.R⟩ R2) (hxs : xs = x.st.reverse.map fun q => V.ref q.tp) :
    ShAt K C CD CS (upd H4 x.p (.lst (xs ++ [.ref tp]))) s (x.next ⟨tp, x.d, x.g, x.t, la, ls, added, struck, x.R⟩ R2 n) ∧ KpL (own s x) H (upd H4 x.p (.lst (xs ++ [.ref tp]))) ∧ PastOf H x ⟨tp, x.d, x.g, x.t, la, ls, added, struck, x.R⟩ := by
  subst hxs
  obtain ⟨nst, nsp, ntp⟩ := S0.ne
  obtain ⟨dx0, e0⟩ := S0.ins
  obtain ⟨kv0, _, et0, _⟩ := id S0.tab
  have hp4 : H4 x.p = _ := k _ _ (by simp; exact ⟨Ne.symm nsp, Ne.symm ntp⟩) S0.past
  have c4 : ChgM H4 [x.p] := fun a h => by rw [List.mem_singleton.mp h]; exact ⟨_, hp4, .inl ⟨_, rfl⟩⟩
  have k5 : KpL [x.p] H4 (upd H4 x.p (.lst ((x.st.reverse.map fun q => V.ref q.tp) ++ [.ref tp]))) := .upd (by simp)
  have n5 : ∀ {a}, a ≠ x.p → a ∉ [x.p] := fun h => by simpa using h
  have kk : KpL [s, x.t, x.p] H (upd H4 x.p (.lst ((x.st.reverse.map fun q => V.ref q.tp) ++ [.ref tp]))) := (k.mono fun a z => by
    simp only [List.mem_cons, List.mem_nil_iff, or_false] at z ⊢
    rcases z with h | h
    · exact .inl h
    · exact .inr (.inl h)).trans (k5.mono fun a z => by simp at z; simp [z])
  have cc : ChgM H [s, x.t, x.p] := fun a z => S0.chg a (by
    simp only [List.mem_cons, List.mem_nil_iff, or_false] at z
    rcases z with rfl | rfl | rfl
    · exact own_s
    · exact own_t
    · exact own_p)
  have kO := kk.mono (ks := own s x) fun a z => by
    simp only [List.mem_cons, List.mem_nil_iff, or_false] at z
    rcases z with rfl | rfl | rfl
    · exact own_s
    · exact own_t
    · exact own_p
  have nd : ∀ {a}, H a = none → a ≠ s ∧ a ≠ x.t ∧ a ≠ x.p := fun {a} h => ⟨by rintro rfl; exact S0.dom own_s h, by rintro rfl; exact S0.dom own_t h, by rintro rfl; exact S0.dom own_p h⟩
  refine ⟨⟨?_, S0.doors.kpL kk cc, T.kpL k5 c4 (n5 ntp), ok, ?_, .same ⟨?_, S0.doors.kpL kk cc, ?_, ?_, fun y hy => ⟨kept k5 c4 (pr y hy).1 mut_tup, kept k5 c4 (pr y hy).2 mut_tup⟩⟩ rfl rv (S0.rows.mono ln) ((S0.stk.kpL kk cc (fun q hq => ?_) fun q hq => ?_).mono ln), fun q hq => ?_⟩, kO, ⟨rfl, rfl, rfl, rfl, Hla, Hls⟩⟩
  · obtain ⟨dx, e⟩ := I
    exact ⟨dx, k5 _ _ (n5 nsp) e⟩
  · show upd H4 x.p _ x.p = _
    rw [upd_same]
    show _ = some (HO.lst ((_ :: x.st).reverse.map fun q => V.ref q.tp))
    rw [List.reverse_cons, List.map_append]; rfl
  · exact k5 _ _ (n5 (nd Htp).2.2) htp
  · exact k5 _ _ (n5 (nd Hla).2.2) ha
  · exact k5 _ _ (n5 (nd Hls).2.2) hl
  · have ph := S0.stk.pst q hq
    have dq := S0.dis q hq
    refine ⟨fun z => ?_, fun z => ?_⟩
    · simp only [List.mem_cons, List.mem_nil_iff, or_false] at z
      rcases z with z | z | z
      · have := ph.la; rw [z, e0] at this; cases this
      · have := ph.la; rw [z, et0] at this; cases this
      · exact dq.1 z
    · simp only [List.mem_cons, List.mem_nil_iff, or_false] at z
      rcases z with z | z | z
      · have := ph.ls; rw [z, e0] at this; cases this
      · have := ph.ls; rw [z, et0] at this; cases this
      · exact dq.2 z
  · obtain ⟨kvs, e⟩ := S0.stk.tabk ⟨_, et0⟩ q hq
    by_cases h : q.t = x.t
    · exact .inl h
    · refine .inr fun z => ?_
      simp only [List.mem_cons, List.mem_nil_iff, or_false] at z
      rcases z with z | z | z
      · rw [z, e0] at e; cases e
      · exact h z
      · have := S0.past; rw [← z, e] at this; cases this
  · rcases List.mem_cons.mp hq with rfl | hq
    · exact ⟨(nd Hla).2.2, (nd Hls).2.2⟩
    · exact S0.dis q hq
def spPutAll (K : PySem.W.Frag) (C CD CS : Addr) : Sp := fun vs H Q _ => ∃ s x l ts, vs = [.ref s, .ref l] ∧ ShAt K C CD CS H s x ∧ H l = some (.lst (txV ts)) ∧ (∀ t ∈ ts, Good t) ∧ ts.length ≤ 1000 ∧ x.n ≤ 100000 ∧ x.st.length ≤ 100000 ∧ l ∉ own s x ∧
  ∀ a q H', H a = none → a ≠ q.la → a ≠ q.ls → H' a = some (.lst ((puts (mks x.g.s1) ⟨x.R, x.n, [], []⟩ ts).ans.map V.bl)) → PastOf H x q →
    ShAt K C CD CS H' s (x.next q (puts (mks x.g.s1) ⟨x.R, x.n, [], []⟩ ts).R (puts (mks x.g.s1) ⟨x.R, x.n, [], []⟩ ts).n) → KpL (own s x) H H' → Q (.ref a) H'
section
variable {P : Program} {w : World} {K : PySem.W.Frag} {mg : Str → Option Value} {base : Heap}
theorem ok_sputAll {f C CD CS : Addr} {fd : FuncData} (F : Fun K "put_all" "Shelf.put_all" sShelfPutAll f fd) (Z : Scl K mg CS) (GC : Cl P w K mg base 3 "_check_texts" (spCheckTs K)) (M1 : Mt P w K mg base CS 4 "_form_put" ["self", "text"] (spFormPut K C CD CS)) (M2 : Mt P w K mg base CS 1 "_enter" ["self", "form", "text"] (spEnter CS)) (M3 : Mt P w K mg base CS 1 "_note" ["self", "added", "struck"] (spNote CS)) : FnOk P w K mg base CX0 5 f fd ["self", "texts"] (spPutAll K C CD CS) := by
  refine F.ok scShelfPutAll (fun vs H Q E h => ?_) (fun cdv A outer s H vs Q E hr h => ?_)
  · obtain ⟨s, x, l, ts, rfl, _⟩ := h
    rfl
  · obtain ⟨s, x, l, ts, rfl, S0, hl, hG, hz, hn, hst, nl, q⟩ := h
    have hu := hu_of hr
    have nd := scShelfPutAll.nd
    refine ⟨_, pss_cons (ps_expr (pe_cl GC hr (by decide) rfl (pa_cons (pv 1) pa_nil)))
      (pss_cons (ps_set (i := 2) nd rfl (Or.inl rfl) (pe_lst pa_nil))
      (pss_cons (ps_set (i := 3) nd rfl (Or.inl rfl) (pe_lst pa_nil))
      (pss_cons (ps_for PassesOwn.never rfl (pi_list (pv 1)) (pg_name (i := 4) nd rfl (Or.inl rfl))
        (pss_cons (ps_set (i := 5) nd rfl (Or.inl rfl) (pe_mt M1 hr (by decide) Z.cl (pv 0) (pa_cons (pv 4) pa_nil)))
        (pss_cons (ps_expr (pe_bm PySem.F.plainAttrs_list PySem.F.slot_list_append PySem.F.type_list_append mt_append (pv 3) (pa_cons (pe_cmp (pc_dnotin hu (pv 5) (pe_fld (pv 0) rfl)) rfl) pa_nil)))
        (pss_one (ps_if (pt_cmp (pc_dnotin hu (pv 5) (pe_fld (pv 0) rfl)))
          (pss_cons (ps_expr (pe_mt M2 hr (by decide) Z.cl (pv 0) (pa_cons (pv 5) (pa_cons (pv 4) pa_nil))))
          (pss_one (ps_expr (pe_bm PySem.F.plainAttrs_list PySem.F.slot_list_append PySem.F.type_list_append mt_append (pv 2) (pa_cons (pv 5) pa_nil))))) pss_nil)))))
      (pss_cons (ps_expr (pe_mt M3 hr (by decide) Z.cl (pv 0) (pa_cons (pv 2) (pa_cons (pe_lst pa_nil) pa_nil))))
      (pss_one (ps_ret (pv 3))))))), ?_⟩
    refine ⟨_, rfl, l, ts, rfl, hl, hG, fun H1 k1 => ?_⟩
    refine ⟨by show 0 ≤ sizeLine; decide, fun la hla => ⟨by show 0 ≤ sizeLine; decide, fun lt hlt => ?_⟩⟩
    have nlt : lt ≠ la := by rintro rfl; rw [upd_same] at hlt; cases hlt
    rw [upd_ne nlt] at hlt
    have Hla : H la = none := by
      cases e : H la with
      | none => rfl
      | some o => rw [k1 la o e] at hla; cases hla
    have Hlt : H lt = none := by
      cases e : H lt with
      | none => rfl
      | some o => rw [k1 lt o e] at hlt; cases hlt
    obtain ⟨nst, nsp, ntp⟩ := S0.ne
    have cst : ChgM H [s, x.t] := fun a z => S0.chg a (by
      simp only [List.mem_cons, List.mem_nil_iff, or_false] at z
      rcases z with rfl | rfl
      · exact own_s
      · exact own_t)
    have sS : ∀ a, a ∈ [s, x.t] ↔ a = s ∨ a = x.t := fun a => by simp
    have nlj : l ∉ [s, x.t] := fun z => by
      rcases (sS l).mp z with rfl | rfl
      · exact nl own_s
      · exact nl own_t
    have gf : ∀ l, Good l → Good (mks x.g.s1 l) := fun l hl => mks_good (fun st hst => by
      obtain ⟨_, ⟨ps, _, al⟩, _⟩ := S0.doors.f1
      exact al.ok st hst) hl
    have pok := puts_ok (ts := ts) S0.rows gf hG
    have klt : la ≠ s ∧ la ≠ x.t ∧ lt ≠ s ∧ lt ≠ x.t := by
      refine ⟨?_, ?_, ?_, ?_⟩ <;> rintro rfl
      · exact S0.dom own_s Hla
      · exact S0.dom own_t Hla
      · exact S0.dom own_s Hlt
      · exact S0.dom own_t Hlt
    refine ⟨_, rfl, l, rfl, ⟨_, SqL.of (by rw [upd_ne (fun z => by rw [← z, hl] at Hlt; cases Hlt), upd_ne (fun z => by rw [← z, hl] at Hla; cases Hla)]; exact k1 l _ hl)⟩, for_list (xs := txV ts) (fun i σ H' => ∃ u4 u5, σ = [some (.ref s), some (.ref l), some (.ref la), some (.ref lt), u4, u5] ∧ InsAt CS H' s x.d x.t (puts (mks x.g.s1) ⟨x.R, x.n, [], []⟩ (ts.take i)).n x.p ∧
        H' la = some (.lst ((puts (mks x.g.s1) ⟨x.R, x.n, [], []⟩ (ts.take i)).added.map fun g => V.str (S g))) ∧ H' lt = some (.lst ((puts (mks x.g.s1) ⟨x.R, x.n, [], []⟩ (ts.take i)).ans.map V.bl)) ∧ TabAt H' x.t (puts (mks x.g.s1) ⟨x.R, x.n, [], []⟩ (ts.take i)).R ∧ KpL [s, x.t] H H') ?_ (fun i σ H' _ p => by
      obtain ⟨u4, u5, _, _, _, _, _, k⟩ := p
      exact SqL.of (k l _ nlj hl)) ?_ ?_⟩
    · refine ⟨none, none, rfl, ?_, ?_, ?_, ?_, ((KpL.ext k1).new hla).at_ Hlt⟩
      · obtain ⟨dx, e⟩ := S0.ins
        exact ⟨dx, by rw [upd_ne (Ne.symm klt.2.2.1), upd_ne (Ne.symm klt.1)]; exact k1 _ _ e⟩
      · rw [upd_ne (Ne.symm nlt), upd_same]; rfl
      · rw [upd_same]; rfl
      · exact ((S0.tab.ext k1).ext (Ext.refl.new hla)).ext (Ext.refl.new (by rw [upd_ne nlt]; exact hlt))
    · rintro i x0 σ H2 hx ⟨u4, u5, rfl, I2, ha2, ht2, T2, k2⟩
      unfold txV at hx
      rw [List.getElem?_map] at hx
      obtain ⟨tx, htx, rfl⟩ := Option.map_eq_some_iff.mp hx
      have hi : i < ts.length := (List.getElem?_eq_some_iff.mp htx).1
      have gtx := hG tx (List.mem_of_getElem? htx)
      have pk := pok i (Nat.le_of_lt hi)
      rw [puts_take htx]
      generalize puts (mks x.g.s1) ⟨x.R, x.n, [], []⟩ (ts.take i) = z at I2 ha2 ht2 T2 pk ⊢
      refine ⟨_, rfl, s, _, _, rfl, I2.choose_spec, rfl, _, rfl, s, x.d, x.t, z.n, x.p, x.g, tx, rfl, I2, S0.doors.kpL k2 cst, gtx, fun H3 k3 => ?_⟩
      have ht3 := k3 _ _ ht2
      have ha3 := k3 _ _ ha2
      obtain ⟨dx, e2⟩ := id I2
      have e3 := k3 _ _ e2
      have T3 := T2.ext k3
      obtain ⟨kvs, et, _, hno, hso⟩ := T3.look (g := mks x.g.s1 tx) pk.ok.nd
      have k03 : KpL [s, x.t] H H3 := k2.trans (.ext k3)
      have zl := pk.len
      have zn := pk.le.2
      have zR := pk.ok.len
      refine ⟨_, rfl, .inl ⟨rfl, _, SqL.of ht3⟩, _, rfl, _, rfl, s, CS, dx, _, _, rfl, e3, Z.cl, Z.n2, rfl, x.t, _, rfl, DGet.k (k := kyS (mks x.g.s1 tx)) et, ?_⟩
      refine ⟨lt, _, _, rfl, rfl, ht3, by rw [List.length_map, zl, sizeLine_eq]; omega, ?_⟩
      obtain ⟨H4, z4⟩ : ∃ H', H' = upd H3 lt (.lst (z.ans.map V.bl ++ [V.bl (!(valV kvs (kyS (mks x.g.s1 tx))).isSome)])) := ⟨_, rfl⟩
      have ht4 : H4 lt = some (.lst (z.ans.map V.bl ++ [V.bl (!(valV kvs (kyS (mks x.g.s1 tx))).isSome)])) := by rw [z4, upd_same]
      have ha4 : H4 la = some (.lst (z.added.map fun g => V.str (S g))) := by rw [z4, upd_ne (Ne.symm nlt)]; exact ha3
      have e4 : H4 s = some (.ins CS dx (shF x.d x.t z.n x.p)) := by rw [z4, upd_ne (Ne.symm klt.2.2.1)]; exact e3
      have et4 : H4 x.t = some (.dK kvs) := by rw [z4, upd_ne (Ne.symm klt.2.2.2)]; exact et
      have k04 : KpL [s, x.t] H H4 := by rw [z4]; exact k03.at_ Hlt
      have T4 : TabAt H4 x.t z.R := by
        rw [z4]
        exact T3.kpL (js := [lt]) (.upd (by simp)) (fun a h => by rw [List.mem_singleton.mp h]; exact ⟨_, ht3, .inl ⟨_, rfl⟩⟩) (by simp; exact Ne.symm klt.2.2.2)
      rw [← z4]
      have kl : kvs.length = z.R.length := by
        obtain ⟨kvs', R', e', r', p'⟩ := T4
        rw [et4] at e'; cases e'
        exact r'.len.trans p'.length_eq
      refine ⟨_, rfl, _, rfl, s, CS, dx, _, _, rfl, e4, Z.cl, Z.n2, rfl, x.t, _, rfl, DGet.k (k := kyS (mks x.g.s1 tx)) et4, _, rfl, ?_⟩
      unfold put1
      by_cases hm : mks x.g.s1 tx ∈ forms z.R
      · obtain ⟨r, hr1, hr2⟩ := List.mem_map.mp hm
        obtain ⟨tp, hv, _⟩ := hso r hr1 hr2
        rw [hv] at ht4 ⊢
        rw [if_pos hm]
        refine iteF ⟨_, _, rfl, ⟨dx, e4⟩, ha4, ?_, T4, k04⟩
        rw [ht4]
        show some (HO.lst (z.ans.map V.bl ++ [V.bl false])) = some (.lst ((z.ans ++ [false]).map V.bl))
        rw [List.map_append]; rfl
      · rw [hno hm] at ht4 ⊢
        rw [if_neg hm]
        refine iteT ⟨_, rfl, s, dx, _, rfl, e4, rfl, _, rfl, _, rfl, s, dx, x.d, x.t, z.n, x.p, mks x.g.s1 tx, tx, kvs, rfl, e4, et4, by rw [kl, sizeLine_eq]; omega, fun tp htp => ?_⟩
        have ntpt : x.t ≠ tp := ne_of_none et4 htp
        have nstp : s ≠ tp := ne_of_none e4 htp
        have nlatp : la ≠ tp := ne_of_none ha4 htp
        have nlttp : lt ≠ tp := ne_of_none ht4 htp
        have Htp : H tp = none := k04.ne htp (fun z => by
          rcases (sS tp).mp z with e | e
          · exact nstp e.symm
          · exact ntpt e.symm)
        obtain ⟨H5, z5⟩ : ∃ H', H' = upd H4 tp (.tup [.int (z.n : Nat), .str (S tx)]) := ⟨_, rfl⟩
        rw [← z5]
        have htp5 : H5 tp = some (.tup [.int (z.n : Nat), .str (S tx)]) := by rw [z5, upd_same]
        have T5 : TabAt H5 x.t z.R := by rw [z5]; exact T4.ext (Ext.refl.new htp)
        obtain ⟨kvs', et5, _, T6⟩ := T5.put hm htp5
        have ekv : kvs' = kvs := by
          have z6 : H5 x.t = some (.dK kvs) := by rw [z5, upd_ne ntpt]; exact et4
          rw [et5] at z6; cases z6; rfl
        subst ekv
        obtain ⟨H6, z6⟩ : ∃ H', H' = upd H5 x.t (.dK (putK kvs' (kyS (mks x.g.s1 tx)) (.ref tp))) := ⟨_, rfl⟩
        rw [← z6] at T6 ⊢
        have es6 : H6 s = some (.ins CS dx (shF x.d x.t z.n x.p)) := by rw [z6, upd_ne nst, z5, upd_ne nstp]; exact e4
        have ha6 : H6 la = some (.lst (z.added.map fun g => V.str (S g))) := by rw [z6, upd_ne klt.2.1, z5, upd_ne nlatp]; exact ha4
        have ht6 : H6 lt = some (.lst (z.ans.map V.bl ++ [V.bl true])) := by rw [z6, upd_ne klt.2.2.2, z5, upd_ne nlttp]; exact ht4
        have T7 : TabAt (upd H6 s (.ins CS dx (shF x.d x.t (z.n + 1) x.p))) x.t (z.R ++ [(mks x.g.s1 tx, z.n, tx)]) :=
          T6.kpL (js := [s]) (.upd (by simp)) (fun a h => by rw [List.mem_singleton.mp h]; exact ⟨_, es6, .inr (.inr ⟨_, _, _, _, _, _, rfl⟩)⟩) (by simp; exact Ne.symm nst)
        refine ⟨_, rfl, .inl ⟨rfl, _, SqL.of (by rw [upd_ne klt.1]; exact ha6)⟩, _, rfl, la, _, _, rfl, rfl, by rw [upd_ne klt.1]; exact ha6, by have := pk.al; rw [List.length_map, sizeLine_eq]; omega, ?_⟩
        refine ⟨_, _, rfl, ⟨dx, by rw [upd_ne (Ne.symm klt.1), upd_same]⟩, ?_, ?_, ?_, ?_⟩
        · rw [upd_same]
          show some (HO.lst ((z.added.map fun g => V.str (S g)) ++ [V.str (S (mks x.g.s1 tx))])) = some (.lst ((z.added ++ [mks x.g.s1 tx]).map fun g => V.str (S g)))
          rw [List.map_append]; rfl
        · rw [upd_ne nlt, upd_ne klt.2.2.1, ht6]
          show some (HO.lst (z.ans.map V.bl ++ [V.bl true])) = some (.lst ((z.ans ++ [true]).map V.bl))
          rw [List.map_append]; rfl
        · exact T7.kpL (js := [la]) (.upd (by simp)) (fun a h => by rw [List.mem_singleton.mp h, upd_ne klt.1]; exact ⟨_, ha6, .inl ⟨_, rfl⟩⟩) (by simp; exact Ne.symm klt.2.1)
        · refine KpL.at_ (KpL.in_ ?_ (by simp)) Hla
          rw [z6]
          refine KpL.in_ ?_ (by simp)
          rw [z5]
          exact k04.at_ Htp
    · rintro σ H2 ⟨u4, u5, rfl, I2, ha2, ht2, T2, k2⟩
      have el : (txV ts).length = ts.length := List.length_map _
      rw [el, List.take_length] at I2 ha2 ht2 T2
      have pk := pok ts.length (Nat.le_refl _)
      rw [List.take_length] at pk
      generalize puts (mks x.g.s1) ⟨x.R, x.n, [], []⟩ ts = z at I2 ha2 ht2 T2 pk q
      have npj : x.p ∉ [s, x.t] := fun z => by
        rcases (sS x.p).mp z with e | e
        · exact nsp e.symm
        · exact ntp e.symm
      have hp2 := k2 _ _ npj S0.past
      obtain ⟨dx, e2⟩ := id I2
      refine ⟨_, rfl, s, dx, _, rfl, e2, rfl, _, rfl, by show 0 ≤ sizeLine; decide, fun ls hls => ?_⟩
      have nls : ∀ {a o}, H2 a = some o → a ≠ ls := fun h => ne_of_none h hls
      obtain ⟨H3, z3⟩ : ∃ H', H' = upd H2 ls (.lst []) := ⟨_, rfl⟩
      rw [← z3]
      have k3 : Ext H2 H3 := by rw [z3]; exact Ext.refl.new hls
      have Hls : H ls = none := k2.ne hls (fun z => by
        obtain ⟨kv, _, et2, _⟩ := T2
        rcases (sS ls).mp z with e | e
        · exact nls e2 e.symm
        · exact nls et2 e.symm)
      refine ⟨s, x.d, x.t, z.n, x.p, la, ls, _, rfl, ⟨dx, k3 _ _ e2⟩, k3 _ _ hp2, by rw [List.length_map, List.length_reverse, sizeLine_eq]; omega, fun tp htp => ?_⟩
      have Htp2 : H2 tp = none := by
        cases e : H2 tp with
        | none => rfl
        | some o => rw [k3 _ _ e] at htp; cases htp
      have Htp : H tp = none := k2.ne Htp2 (fun z => by
        obtain ⟨kv, _, et2, _⟩ := T2
        rcases (sS tp).mp z with e | e
        · rw [e, e2] at Htp2; cases Htp2
        · rw [e, et2] at Htp2; cases Htp2)
      refine ⟨_, rfl, ?_⟩
      obtain ⟨H4, z4⟩ : ∃ H', H' = upd H3 tp (.tup [.ref x.d, .ref x.t, .ref la, .ref ls]) := ⟨_, rfl⟩
      rw [← z4]
      have k4 : Ext H3 H4 := by rw [z4]; exact Ext.refl.new htp
      have k24 := k3.trans k4
      obtain ⟨r1, r2, r3⟩ := S0.noted (n := z.n) (R2 := z.R) (la := la) (ls := ls) (tp := tp) (added := z.added) (struck := []) (k2.trans (.ext k24)) ⟨dx, k24 _ _ e2⟩ (T2.ext k24) pk.ok pk.le.1 Hla Hls Htp (k24 _ _ ha2) (k4 _ _ (by rw [z3, upd_same]; rfl)) (fun _ h => nomatch h) (by rw [z4, upd_same]) (rev_put pk rfl rfl rfl) rfl
      have nltp : lt ≠ x.p := by rintro rfl; exact S0.dom own_p Hlt
      exact q lt _ _ Hlt nlt (nls ht2) (by rw [upd_ne nltp]; exact k24 _ _ ht2) r3 r1 r2
end
end Pd

set_option maxHeartbeats 4000000
namespace Pd
open PySem PySem.Spec PyProof.Rows L2 SX
/-! ### put, strike, find -/
def putR (f : List Nat → List Nat) (R : List Row3) (n : Nat) (l : List Nat) : List Row3 := if f l ∈ forms R then R else R ++ [(f l, n, l)]
def putN (f : List Nat → List Nat) (R : List Row3) (n : Nat) (l : List Nat) : Nat := if f l ∈ forms R then n else n + 1
def strR (f : List Nat → List Nat) (R : List Row3) (l : List Nat) : List Row3 := R.filter fun r => decide (r.1 ≠ f l)
theorem puts_one (f : List Nat → List Nat) (R : List Row3) (n : Nat) (l : List Nat) : (puts f ⟨R, n, [], []⟩ [l]).R = putR f R n l ∧ (puts f ⟨R, n, [], []⟩ [l]).n = putN f R n l ∧ (puts f ⟨R, n, [], []⟩ [l]).ans = [decide (f l ∉ forms R)] := by
  show (put1 f ⟨R, n, [], []⟩ l).R = _ ∧ _ ∧ _
  unfold puts put1 putR putN
  by_cases h : f l ∈ forms R
  · simp [h, put1]
  · simp [h, put1]
theorem putN_le {f : List Nat → List Nat} {R : List Row3} {n : Nat} {l : List Nat} : n ≤ putN f R n l ∧ putN f R n l ≤ n + 1 := by
  unfold putN
  split <;> omega
theorem strR_miss {f : List Nat → List Nat} {R : List Row3} {l : List Nat} (h : f l ∉ forms R) : strR f R l = R := List.filter_eq_self.mpr fun r hr => decide_eq_true fun e => h (List.mem_map.mpr ⟨r, hr, e⟩)
theorem rowsOk_filter {R : List Row3} {n : Nat} (h : RowsOk R n) (p : Row3 → Bool) : RowsOk (R.filter p) n :=
  ⟨(List.Sublist.map (fun r : Row3 => r.1) List.filter_sublist).nodup h.nd, h.asc.sublist List.filter_sublist, fun r z => h.lt r (List.mem_filter.mp z).1, fun r z => h.good r (List.mem_filter.mp z).1⟩
theorem filter_back {R : List Row3} (nd : (forms R).Nodup) {r : Row3} (hr : r ∈ R) : ((R.filter fun a => decide (a.1 ≠ r.1)) ++ [r]).Perm R := by
  induction R with
  | nil => cases hr
  | cons a R ih =>
    have nd' := List.nodup_cons.mp (show (a.1 :: forms R).Nodup from nd)
    by_cases e : a.1 = r.1
    · have ea : a = r := row_uniq nd (List.mem_cons_self ..) hr e
      subst ea
      have e2 : R.filter (fun b => decide (b.1 ≠ a.1)) = R := List.filter_eq_self.mpr fun b hb => decide_eq_true fun z => nd'.1 (z ▸ List.mem_map.mpr ⟨b, hb, rfl⟩)
      rw [List.filter_cons_of_neg (by simp), e2]
      exact (List.perm_append_comm (l₁ := R) (l₂ := [a]))
    · rcases List.mem_cons.mp hr with z | z
      · exact absurd (by rw [z]) e
      · rw [List.filter_cons_of_pos (by simpa using e), List.cons_append]
        exact (ih nd'.2 z).cons a
def spSPut (K : PySem.W.Frag) (C CD CS : Addr) : Sp := fun vs H Q _ => ∃ s x l, vs = [.ref s, .str (S l)] ∧ ShAt K C CD CS H s x ∧ Good l ∧ x.n ≤ 100000 ∧ x.st.length ≤ 100000 ∧
  ∀ q H', PastOf H x q → ShAt K C CD CS H' s (x.next q (putR (mks x.g.s1) x.R x.n l) (putN (mks x.g.s1) x.R x.n l)) → KpL (own s x) H H' → Q (.bl (decide (mks x.g.s1 l ∉ forms x.R))) H'
def spSStrike (K : PySem.W.Frag) (C CD CS : Addr) : Sp := fun vs H Q _ => ∃ s x l, vs = [.ref s, .str (S l)] ∧ ShAt K C CD CS H s x ∧ Good l ∧ x.n ≤ 100000 ∧ x.st.length ≤ 100000 ∧
  ∀ q H', PastOf H x q → ShAt K C CD CS H' s (x.next q (strR (mks x.g.s3) x.R l) x.n) → KpL (own s x) H H' → Q (.bl (decide (mks x.g.s3 l ∈ forms x.R))) H'
def spSFind (K : PySem.W.Frag) (C CD CS : Addr) : Sp := fun vs H Q _ => ∃ s x l, vs = [.ref s, .str (S l)] ∧ ShAt K C CD CS H s x ∧ Good l ∧ ∀ H', Ext H H' → Q (.bl (decide (mks x.g.s2 l ∈ forms x.R))) H'
structure InM (P : Program) (w : World) (K : PySem.W.Frag) (mg : Str → Option Value) (base : Heap) (C : Addr) (k : Nat) (m : Str) (ps : List Str) (sp : Sp) : Prop where
  ex : ∃ (g : Addr) (fd : FuncData), PySem.W.findIn K (.ref C) m = some (some (.ref g)) ∧ PySem.W.isFn K (.ref g) = true ∧ FnOk P w K mg base CX0 k g fd ps sp ∧ Binds K fd ps []
section
variable {P : Program} {w : World} {K : PySem.W.Frag} {mg : Str → Option Value} {base : Heap}
theorem ok_sput {f C CD CS : Addr} {fd : FuncData} (F : Fun K "put" "Shelf.put" sShelfPut f fd) (Z : Scl K mg CS) (M : Mt P w K mg base CS 5 "put_all" ["self", "texts"] (spPutAll K C CD CS)) : FnOk P w K mg base CX0 6 f fd ["self", "text"] (spSPut K C CD CS) := by
  refine F.ok scShelfPut (fun vs H Q E h => ?_) (fun cdv A outer s H vs Q E hr h => ?_)
  · obtain ⟨s, x, l, rfl, _⟩ := h
    rfl
  · obtain ⟨s, x, l, rfl, S0, hG, hn, hst, q⟩ := h
    refine ⟨_, pss_one (ps_ret (pe_ix ix_list (pe_mt M hr (by decide) Z.cl (pv 0) (pa_cons (pe_lst (pa_cons (pv 1) pa_nil)) pa_nil)) pe_int (fun _ _ => rfl))), ?_⟩
    obtain ⟨dx, e⟩ := S0.ins
    refine ⟨_, rfl, s, dx, _, rfl, e, rfl, _, rfl, by show 1 ≤ sizeLine; decide, fun a ha => ?_⟩
    have k1 : Ext H (upd H a (.lst [.str (S l)])) := Ext.refl.new ha
    have S1 := S0.ext k1
    obtain ⟨p1, p2, p3⟩ := puts_one (mks x.g.s1) x.R x.n l
    refine ⟨s, x, a, [l], rfl, S1, upd_same, (fun t h => by rw [List.mem_singleton.mp h]; exact hG), by show 1 ≤ 1000; decide, hn, hst, fun z => S0.dom z ha, fun b q' H' hb nb1 nb2 hb' pq S2 k2 => ?_⟩
    rw [p3] at hb'
    rw [p1, p2] at S2
    have hb0 : ∀ {c}, upd H a (.lst [.str (S l)]) c = none → H c = none := fun {c} h => by
      cases e : H c with
      | none => rfl
      | some o => rw [k1 _ _ e] at h; cases h
    exact ⟨b, _, 0, _, rfl, rfl, SqL.of hb', rfl, q q' H' ⟨pq.R, pq.d, pq.g, pq.t, hb0 pq.la, hb0 pq.ls⟩ S2 ((KpL.ext k1).trans k2)⟩
theorem ok_sfind {f C CD CS : Addr} {fd : FuncData} (F : Fun K "find" "Shelf.find" sShelfFind f fd) (GC : Cl P w K mg base 2 "_check_text" spCheckT) (M : InM P w K mg base CS 4 "__contains__" ["self", "x"] (spSIn K C CD CS)) : FnOk P w K mg base CX0 5 f fd ["self", "text"] (spSFind K C CD CS) := by
  refine F.ok scShelfFind (fun vs H Q E h => ?_) (fun cdv A outer s H vs Q E hr h => ?_)
  · obtain ⟨s, x, l, rfl, _⟩ := h
    rfl
  · obtain ⟨s, x, l, rfl, S0, hG, q⟩ := h
    obtain ⟨g, fdg, m1, m2, FM, bM⟩ := M.ex
    refine ⟨_, pss_cons (ps_expr (pe_cl GC hr (by decide) rfl (pa_cons (pv 1) pa_nil))) (pss_one (ps_ret (pe_cmpR (op_inOwn m1 m2 (FnOk.raw FM bM .nil) hr pass0) (pv 1) (pv 0) (by rfl)))), ?_⟩
    refine ⟨_, rfl, l, rfl, hG, fun H1 k1 => ?_⟩
    have S1 := S0.ext k1
    obtain ⟨dx, e⟩ := S1.ins
    exact ⟨_, rfl, _, rfl, s, dx, _, rfl, e, s, x.d, x.t, x.n, x.p, x.g, x.R, l, rfl, S1.ins, S1.doors, S1.tab, S1.rows.nd, hG, fun H2 k2 => ⟨_, rfl, q H2 (k1.trans k2)⟩⟩
theorem ok_sstrike {f C CD CS : Addr} {fd : FuncData} (F : Fun K "strike" "Shelf.strike" sShelfStrike f fd) (Z : Scl K mg CS) (Y : Drs P w K mg base CD) (X : FolS P w K mg base C) (GC : Cl P w K mg base 2 "_check_text" spCheckT) (G : Cl P w K mg base 3 "made_by_steps" (spMadeSteps K)) (M3 : Mt P w K mg base CS 1 "_note" ["self", "added", "struck"] (spNote CS)) : FnOk P w K mg base CX0 4 f fd ["self", "text"] (spSStrike K C CD CS) := by
  refine F.ok scShelfStrike (fun vs H Q E h => ?_) (fun cdv A outer s H vs Q E hr h => ?_)
  · obtain ⟨s, x, l, rfl, _⟩ := h
    rfl
  · obtain ⟨s, x, l, rfl, S0, hG, hn, hst, q⟩ := h
    have hu := hu_of hr
    have nd := scShelfStrike.nd
    obtain ⟨g1, fd1, m1, F1, b1⟩ := Y.strike
    obtain ⟨gs, fds, ms, FS, bS⟩ := X.steps
    refine ⟨_, pss_cons (ps_expr (pe_cl GC hr (by decide) rfl (pa_cons (pv 1) pa_nil)))
      (pss_cons (ps_set (i := 2) nd rfl (Or.inl rfl) (pe_cl G hr (by decide) rfl (pa_cons (pe_meth0 (pe_meth0 (pe_fld (pv 0) rfl) Y.z.cl m1 F1 (hr.mono (by decide)) b1 .nil pass0) X.cl ms FS (hr.mono (by decide)) bS .nil pass0) (pa_cons (pv 1) pa_nil))))
      (pss_cons (ps_if (pt_cmp (pc_dnotin hu (pv 2) (pe_fld (pv 0) rfl)))
        (pss_cons (ps_expr (pe_mt M3 hr (by decide) Z.cl (pv 0) (pa_cons (pe_lst pa_nil) (pa_cons (pe_lst pa_nil) pa_nil)))) (pss_one (ps_ret pe_bl))) pss_nil)
      (pss_cons (ps_expr (pe_mt M3 hr (by decide) Z.cl (pv 0) (pa_cons (pe_lst pa_nil) (pa_cons (pe_lst (pa_cons (pe_tup (pa_cons (pv 2) (pa_cons (pe_dget hu (pe_fld (pv 0) rfl) (pv 2) (fun _ _ => rfl)) pa_nil))) pa_nil)) pa_nil))))
      (pss_cons (ps_ddel (pe_fld (pv 0) rfl) (pv 2))
      (pss_one (ps_ret pe_bl)))))), ?_⟩
    refine ⟨_, rfl, l, rfl, hG, fun H1 k1 => ?_⟩
    have S1 := S0.ext k1
    obtain ⟨dx, e⟩ := S1.ins
    have D1 := S1.doors
    obtain ⟨dd, ed⟩ := D1.ins
    obtain ⟨⟨d1, e1⟩, R1, h6⟩ := id D1.f3
    refine ⟨_, rfl, s, CS, dx, _, _, rfl, e, Z.cl, Z.n1, rfl, x.d, dd, _, rfl, ed, rfl, x.d, dd, _, _, rfl, ed, rfl, x.g.o3, d1, _, rfl, e1, rfl, x.g.o3, x.g.r3, x.g.s3, rfl, D1.f3, _, rfl, x.g.r3, x.g.s3, l, rfl, R1, hG, fun H2 k2 => ?_⟩
    have S2 := S1.ext k2
    have e2 := k2 _ _ e
    have k02 := k1.trans k2
    obtain ⟨kvs, et, _, hno, hso⟩ := S2.tab.look (g := mks x.g.s3 l) S2.rows.nd
    have z0 : ∀ {c}, H2 c = none → H c = none := fun {c} h => by
      cases e : H c with
      | none => rfl
      | some o => rw [k02 _ _ e] at h; cases h
    refine ⟨_, rfl, _, rfl, s, CS, dx, _, _, rfl, e2, Z.cl, Z.n2, rfl, x.t, _, rfl, DGet.k (k := kyS (mks x.g.s3 l)) et, _, rfl, ?_⟩
    by_cases hm : mks x.g.s3 l ∈ forms x.R
    · obtain ⟨r, hr1, hr2⟩ := List.mem_map.mp hm
      obtain ⟨tp, hv, htp⟩ := hso r hr1 hr2
      rw [hv]
      refine iteF ⟨_, rfl, s, dx, _, rfl, e2, rfl, by show 0 ≤ sizeLine; decide, fun la hla => ?_⟩
      have na : ∀ {a o}, H2 a = some o → a ≠ la := fun h => ne_of_none h hla
      obtain ⟨H3, z3⟩ : ∃ H', H' = upd H2 la (.lst []) := ⟨_, rfl⟩
      rw [← z3]
      have k3 : Ext H2 H3 := by rw [z3]; exact Ext.refl.new hla
      refine ⟨_, rfl, _, rfl, s, CS, dx, _, _, rfl, k3 _ _ e2, Z.cl, Z.n2, rfl, _, rfl, x.t, .ref tp, rfl, (by have z := DGet.k (k := kyS (mks x.g.s3 l)) (k3 _ _ et); rw [hv] at z; exact z), by show 2 ≤ sizeLine; decide, fun pr hpr => ?_⟩
      obtain ⟨H4, z4⟩ : ∃ H', H' = upd H3 pr (.tup [.str (S (mks x.g.s3 l)), .ref tp]) := ⟨_, rfl⟩
      rw [← z4]
      have k4 : Ext H3 H4 := by rw [z4]; exact Ext.refl.new hpr
      refine ⟨by show 1 ≤ sizeLine; decide, fun ls hls => ?_⟩
      obtain ⟨H5, z5⟩ : ∃ H', H' = upd H4 ls (.lst [.ref pr]) := ⟨_, rfl⟩
      rw [← z5]
      have k5 : Ext H4 H5 := by rw [z5]; exact Ext.refl.new hls
      have k25 := (k3.trans k4).trans k5
      have S5 := S2.ext k25
      refine ⟨s, x.d, x.t, x.n, x.p, la, ls, _, rfl, S5.ins, S5.past, by rw [List.length_map, List.length_reverse, sizeLine_eq]; omega, fun pp hpp => ?_⟩
      obtain ⟨H6, z6⟩ : ∃ H', H' = upd H5 pp (.tup [.ref x.d, .ref x.t, .ref la, .ref ls]) := ⟨_, rfl⟩
      rw [← z6]
      have k6 : Ext H5 H6 := by rw [z6]; exact Ext.refl.new hpp
      have k26 := k25.trans k6
      have S6 := S5.ext k6
      have hpL := S6.past
      obtain ⟨nst, nsp, ntp⟩ := S0.ne
      obtain ⟨kv6, e6, is6, T6⟩ := S6.tab.del hm
      have e6s : H6 s = some (.ins CS dx (shF x.d x.t x.n x.p)) := k26 _ _ e2
      obtain ⟨xs6, hxs6⟩ : ∃ xs, xs = x.st.reverse.map fun q => V.ref q.tp := ⟨_, rfl⟩
      rw [← hxs6]
      refine ⟨_, rfl, s, CS, dx, _, _, rfl, by rw [upd_ne nsp]; exact e6s, Z.cl, Z.n2, rfl, _, rfl, x.t, kv6, kyS (mks x.g.s3 l), rfl, by rw [upd_ne ntp]; exact e6, rfl, is6, ?_⟩
      have sw : upd (upd H6 x.p (.lst (xs6 ++ [.ref pp]))) x.t (.dK (dropK kv6 (kyS (mks x.g.s3 l)))) = upd (upd H6 x.t (.dK (dropK kv6 (kyS (mks x.g.s3 l))))) x.p (.lst (xs6 ++ [.ref pp])) := by
        funext b
        by_cases hb : b = x.t
        · subst hb; rw [upd_same, upd_ne ntp, upd_same]
        · rw [upd_ne hb]
          by_cases hc : b = x.p
          · subst hc; rw [upd_same, upd_same]
          · rw [upd_ne hc, upd_ne hc, upd_ne hb]
      rw [sw]
      have Hla : H la = none := z0 hla
      have Hpp : H pp = none := z0 (by
        cases e : H2 pp with
        | none => rfl
        | some o => rw [k25 _ _ e] at hpp; cases hpp)
      have Hls : H ls = none := z0 (by
        cases e : H2 ls with
        | none => rfl
        | some o => rw [(k3.trans k4) _ _ e] at hls; cases hls)
      have nt : ∀ {a}, H a = none → a ≠ x.t := fun h => by rintro rfl; exact S0.dom own_t h
      have htp6 := k26 _ _ htp
      have hpr6 : H6 pr = some (.tup [.str (S (mks x.g.s3 l)), .ref tp]) := (k5.trans k6) _ _ (by rw [z4, upd_same])
      have ntb : ∀ {b xs}, H6 b = some (.tup xs) → b ≠ x.t := fun {b xs} h => by rintro rfl; rw [h] at e6; cases e6
      have rE : r.1 = mks x.g.s3 l := hr2
      have pmr : ((strR (mks x.g.s3) x.R l).filter (fun r : Row3 => decide (r.1 ∉ ([] : List (List Nat)))) ++ [r]).Perm x.R := by
        have fb := filter_back S0.rows.nd hr1
        rw [rE] at fb
        rw [List.filter_eq_self.mpr (fun a _ => by simp)]
        exact fb
      obtain ⟨r1, r2, r3⟩ := S0.noted (H4 := upd H6 x.t (.dK (dropK kv6 (kyS (mks x.g.s3 l))))) (n := x.n) (R2 := strR (mks x.g.s3) x.R l) (la := la) (ls := ls) (tp := pp) (added := []) (struck := [(r, pr, tp)]) (xs := xs6)
        (KpL.in_ (.ext (k02.trans k26)) (by simp)) ⟨dx, by rw [upd_ne nst]; exact e6s⟩ T6 (rowsOk_filter S0.rows _) (Nat.le_refl _) Hla Hls Hpp
        (by rw [upd_ne (nt Hla)]; exact ((k4.trans k5).trans k6) _ _ (by rw [z3, upd_same]; rfl)) (by rw [upd_ne (nt Hls)]; exact k6 _ _ (by rw [z5, upd_same]; rfl))
        (fun y hy => by
          rw [List.mem_singleton.mp hy]
          refine ⟨?_, ?_⟩
          · show (upd H6 x.t _) pr = _
            rw [upd_ne (ntb hpr6), hpr6]
            show _ = some (HO.tup [.str (S r.1), .ref tp])
            rw [rE]
          · show (upd H6 x.t _) tp = _
            rw [upd_ne (ntb htp6)]; exact htp6)
        (by rw [upd_ne (nt Hpp), z6, upd_same]) ⟨(fun _ h => nomatch h), List.nodup_nil, pmr⟩ hxs6
      have q := q _ _ r3 r1 r2
      rw [decide_eq_true hm] at q
      exact q
    · rw [hno hm]
      refine iteT ⟨_, rfl, s, dx, _, rfl, e2, rfl, by show 0 ≤ sizeLine; decide, fun la hla => ?_⟩
      obtain ⟨H3, z3⟩ : ∃ H', H' = upd H2 la (.lst []) := ⟨_, rfl⟩
      rw [← z3]
      have k3 : Ext H2 H3 := by rw [z3]; exact Ext.refl.new hla
      refine ⟨by show 0 ≤ sizeLine; decide, fun ls hls => ?_⟩
      obtain ⟨H5, z5⟩ : ∃ H', H' = upd H3 ls (.lst []) := ⟨_, rfl⟩
      rw [← z5]
      have k5 : Ext H3 H5 := by rw [z5]; exact Ext.refl.new hls
      have k25 := k3.trans k5
      have S5 := S2.ext k25
      refine ⟨s, x.d, x.t, x.n, x.p, la, ls, _, rfl, S5.ins, S5.past, by rw [List.length_map, List.length_reverse, sizeLine_eq]; omega, fun pp hpp => ?_⟩
      obtain ⟨H6, z6⟩ : ∃ H', H' = upd H5 pp (.tup [.ref x.d, .ref x.t, .ref la, .ref ls]) := ⟨_, rfl⟩
      rw [← z6]
      have k6 : Ext H5 H6 := by rw [z6]; exact Ext.refl.new hpp
      have k26 := k25.trans k6
      have S6 := S5.ext k6
      have Hla : H la = none := z0 hla
      have Hpp : H pp = none := z0 (by
        cases e : H2 pp with
        | none => rfl
        | some o => rw [k25 _ _ e] at hpp; cases hpp)
      have Hls : H ls = none := z0 (by
        cases e : H2 ls with
        | none => rfl
        | some o => rw [k3 _ _ e] at hls; cases hls)
      obtain ⟨r1, r2, r3⟩ := S0.noted (H4 := H6) (n := x.n) (R2 := x.R) (la := la) (ls := ls) (tp := pp) (added := []) (struck := []) (.ext (k02.trans k26)) S6.ins S6.tab S0.rows (Nat.le_refl _) Hla Hls Hpp
        ((k5.trans k6) _ _ (by rw [z3, upd_same]; rfl)) (k6 _ _ (by rw [z5, upd_same]; rfl)) (fun _ h => nomatch h) (by rw [z6, upd_same]) ⟨(fun _ h => nomatch h), List.nodup_nil, by
          show (x.R.filter (fun r : Row3 => decide (r.1 ∉ ([] : List (List Nat)))) ++ []).Perm x.R
          rw [List.filter_eq_self.mpr (fun a _ => by simp), List.append_nil]⟩ rfl
      have q := q _ _ r3 (by rw [strR_miss hm]; exact r1) r2
      rw [decide_eq_false hm] at q
      exact q
end
end Pd

set_option maxHeartbeats 4000000
namespace Pd
open PySem PySem.Spec PyProof.Rows L2 SX
/-! ### the law's own state: four rows, a list of pairs, the pasts -/
structure ClN (P : Program) (w : World) (K : PySem.W.Frag) (mg : Str → Option Value) (base : Heap) (k : Nat) (x : Str) (sp : Nat → Sp) : Prop where
  ex : ∃ (f : Addr), (∀ n, FnN n P w K mg base k f (sp n)) ∧ mg x = some (.ref f) ∧ PySem.W.keepIn K (.ref f) = true
theorem pen_clN {X : Cx} {n k j : Nat} {x : Str} {sp : Nat → Sp} {e : Expr} {es : List Expr} {t : TA} {p pos : Pos} (c : ClN X.prog X.w X.K X.mg X.base k x sp) (hr : Room j X.A) (hk : k ≤ j) (hg : Gl X x) (ha : PAn n X (e :: es) t)
    (hdb : (x == ("__debug__" : Str)) = false := by decide) (he : starEach (e :: es) X.env = (false, eval e X.env) :: starEach es X.env := by rfl) (hpl : (backTo pos (starEach es X.env)).any (·.1) = false := by rfl) :
    PEn n X (.Call (.Name x p) (e :: es) [] pos) (tCall (sp n) [] E0 t) := by
  obtain ⟨f, F, hm, kp⟩ := c.ex
  exact pen_callN (F n) (hr.mono hk) hg hm kp ha hdb he hpl
theorem beq_S {a b : List Nat} : (S a == S b) = decide (a = b) := by
  rw [Bool.eq_iff_iff, beq_iff_eq, decide_eq_true_iff]
  exact ⟨fun h => SX.S_inj h, fun h => by rw [h]⟩
theorem in_txs {l : List Nat} {gs : List (List Nat)} : inV (.str (S l)) (txV gs) = decide (l ∈ gs) := by
  induction gs with
  | nil => rfl
  | cons g gs ih =>
    show ((S g == S l) || inV (.str (S l)) (txV gs)) = _
    rw [ih, beq_S, Bool.eq_iff_iff]
    simp only [Bool.or_eq_true, decide_eq_true_eq, List.mem_cons]
    constructor
    · rintro (h | h)
      · exact .inl h.symm
      · exact .inr h
    · rintro (h | h)
      · exact .inl h.symm
      · exact .inr h
theorem flat_txs {gs : List (List Nat)} : (txV gs).all flatV = true := by
  unfold txV
  rw [List.all_map, List.all_eq_true]
  intro _ _; rfl
abbrev Row2 := List Nat × List Nat
inductive PR (H : Hp) : List Addr → List Row2 → Prop where
  | nil : PR H [] []
  | cons {a : Addr} {r : Row2} {as : List Addr} {R : List Row2} (h : H a = some (.tup [.str (S r.1), .str (S r.2)])) (t : PR H as R) : PR H (a :: as) (r :: R)
def RwsAt (H : Hp) (l : Addr) (R : List Row2) : Prop := ∃ as, H l = some (.lst (as.map V.ref)) ∧ PR H as R
section
variable {H H' : Hp}
theorem PR.same (k : ∀ p xs, H p = some (.tup xs) → H' p = some (.tup xs)) : ∀ {as : List Addr} {R : List Row2}, PR H as R → PR H' as R
  | _, _, .nil => .nil
  | _, _, .cons h t => .cons (k _ _ h) (t.same k)
theorem PR.len : ∀ {as : List Addr} {R : List Row2}, PR H as R → as.length = R.length
  | _, _, .nil => rfl
  | _, _, .cons _ t => congrArg (· + 1) t.len
theorem PR.get : ∀ {as : List Addr} {R : List Row2} {i : Nat} {a : Addr}, PR H as R → as[i]? = some a → ∃ r, R[i]? = some r ∧ H a = some (.tup [.str (S r.1), .str (S r.2)])
  | _, _, _, _, .nil, e => by simp at e
  | _, _, 0, _, .cons h t, e => by
    simp at e; subst e
    exact ⟨_, by simp, h⟩
  | _, _, i + 1, _, .cons h t, e => by
    obtain ⟨r, e1, h1⟩ := t.get (i := i) (by simpa using e)
    exact ⟨r, by simpa using e1, h1⟩
theorem PR.snoc {a : Addr} {r : Row2} (h : H a = some (.tup [.str (S r.1), .str (S r.2)])) : ∀ {as : List Addr} {R : List Row2}, PR H as R → PR H (as ++ [a]) (R ++ [r])
  | _, _, .nil => .cons h .nil
  | _, _, .cons h' t => .cons h' (t.snoc h)
theorem RwsAt.kpL {js : List Addr} {l : Addr} {R : List Row2} (h : RwsAt H l R) (k : KpL js H H') (c : ChgM H js) (n : l ∉ js) : RwsAt H' l R := by
  obtain ⟨as, e, p⟩ := h
  exact ⟨as, k _ _ n e, p.same fun p xs z => kept k c z mut_tup⟩
theorem RwsAt.ext {l : Addr} {R : List Row2} (h : RwsAt H l R) (k : Ext H H') : RwsAt H' l R := by
  obtain ⟨as, e, p⟩ := h
  exact ⟨as, k _ _ e, p.same fun p xs z => k _ _ z⟩
theorem FourB.kpL {K : PySem.W.Frag} {b : Nat} {js : List Addr} {l : Addr} {rs : List Addr} {rws : List (List Stp)} (h : FourB K b H l rs rws) (k : KpL js H H') (c : ChgM H js) (n : l ∉ js) : FourB K b H' l rs rws := ⟨k _ _ n h.1, h.2.1.kpL k c, h.2.2⟩
theorem FourB.ext {K : PySem.W.Frag} {b : Nat} {l : Addr} {rs : List Addr} {rws : List (List Stp)} (h : FourB K b H l rs rws) (k : Ext H H') : FourB K b H' l rs rws := ⟨k _ _ h.1, h.2.1.ext k, h.2.2⟩
theorem FourB.mono {K : PySem.W.Frag} {b b' : Nat} {l : Addr} {rs : List Addr} {rws : List (List Stp)} (h : FourB K b H l rs rws) (m : b ≤ b') : FourB K b' H l rs rws := ⟨h.1, h.2.1.mono m, h.2.2⟩
end
structure Lp where
  (tp four : Addr) (rs : List Addr) (rws : List (List Stp)) (rl : Addr) (R : List Row2)
structure Ls where
  (four : Addr) (rs : List Addr) (rws : List (List Stp)) (rl : Addr) (R : List Row2) (pl : Addr) (ps : List Lp)
structure LpAt (K : PySem.W.Frag) (b : Nat) (H : Hp) (p : Lp) : Prop where
  tp : H p.tp = some (.tup [.ref p.four, .ref p.rl])
  four : FourB K b H p.four p.rs p.rws
  rl : RwsAt H p.rl p.R
def lro (y : Ls) : List Addr := y.four :: y.rl :: y.ps.flatMap fun p => [p.four, p.rl]
def lown (st : Addr) (y : Ls) : List Addr := st :: y.pl :: lro y
structure LsAt (K : PySem.W.Frag) (b : Nat) (H : Hp) (st : Addr) (y : Ls) : Prop where
  s0 : H st = some (.lst [.ref y.four, .ref y.rl, .ref y.pl])
  four : FourB K b H y.four y.rs y.rws
  rl : RwsAt H y.rl y.R
  p0 : H y.pl = some (.lst (y.ps.reverse.map fun p => V.ref p.tp))
  ps : ∀ p ∈ y.ps, LpAt K b H p
  dis : st ≠ y.pl ∧ ∀ a ∈ lro y, a ≠ st ∧ a ≠ y.pl
  good : ∀ r ∈ y.R, Good r.1 ∧ Good r.2
section
variable {K : PySem.W.Frag} {b : Nat} {H H' : Hp} {st : Addr} {y : Ls}
theorem LsAt.kpL {js : List Addr} (h : LsAt K b H st y) (k : KpL js H H') (c : ChgM H js) (n : ∀ a ∈ lown st y, a ∉ js) : LsAt K b H' st y := by
  have n2 : ∀ a ∈ lro y, a ∉ js := fun a z => n a (List.mem_cons_of_mem _ (List.mem_cons_of_mem _ z))
  refine ⟨k _ _ (n _ (List.mem_cons_self ..)) h.s0, h.four.kpL k c (n2 _ (List.mem_cons_self ..)), h.rl.kpL k c (n2 _ (List.mem_cons_of_mem _ (List.mem_cons_self ..))), k _ _ (n _ (List.mem_cons_of_mem _ (List.mem_cons_self ..))) h.p0, fun p hp => ?_, h.dis, h.good⟩
  obtain ⟨a1, a2, a3⟩ := h.ps p hp
  have z : ∀ a ∈ [p.four, p.rl], a ∉ js := fun a ha => n2 a (List.mem_cons_of_mem _ (List.mem_cons_of_mem _ (List.mem_flatMap.mpr ⟨p, hp, ha⟩)))
  exact ⟨kept k c a1 mut_tup, a2.kpL k c (z _ (by simp)), a3.kpL k c (z _ (by simp))⟩
theorem LsAt.ext (h : LsAt K b H st y) (k : Ext H H') : LsAt K b H' st y := h.kpL (js := []) (.ext k) (fun _ z => nomatch z) fun _ _ z => nomatch z
theorem LsAt.mono {b' : Nat} (h : LsAt K b H st y) (l : b ≤ b') : LsAt K b' H st y := ⟨h.s0, h.four.mono l, h.rl, h.p0, fun p hp => ⟨(h.ps p hp).tp, (h.ps p hp).four.mono l, (h.ps p hp).rl⟩, h.dis, h.good⟩
theorem LsAt.lst (h : LsAt K b H st y) : ∀ a ∈ lown st y, ∃ xs, H a = some (.lst xs) := fun a z => by
  rcases List.mem_cons.mp z with rfl | z
  · exact ⟨_, h.s0⟩
  rcases List.mem_cons.mp z with rfl | z
  · exact ⟨_, h.p0⟩
  rcases List.mem_cons.mp z with rfl | z
  · exact ⟨_, h.four.1⟩
  rcases List.mem_cons.mp z with rfl | z
  · obtain ⟨as, e, _⟩ := h.rl
    exact ⟨_, e⟩
  · obtain ⟨p, hp, ha⟩ := List.mem_flatMap.mp z
    simp only [List.mem_cons, List.mem_nil_iff, or_false] at ha
    rcases ha with rfl | rfl
    · exact ⟨_, (h.ps p hp).four.1⟩
    · obtain ⟨as, e, _⟩ := (h.ps p hp).rl
      exact ⟨_, e⟩
theorem LsAt.chg (h : LsAt K b H st y) : ChgM H (lown st y) := fun a z => by
  obtain ⟨xs, e⟩ := h.lst a z
  exact ⟨_, e, .inl ⟨_, rfl⟩⟩
theorem LsAt.dom (h : LsAt K b H st y) {a : Addr} (z : a ∈ lown st y) : H a ≠ none := by
  obtain ⟨xs, e⟩ := h.lst a z
  rw [e]; exact fun z => nomatch z
/-- behind a step of the law: rows may be new, a past is noted -/
theorem LsAt.next {y : Ls} (h : LsAt K b H st y) {p : Lp} {R : List Row2} {rl : Addr} {H2 : Hp} (k : KpL [st, y.pl] H H2) (h1 : H2 st = some (.lst [.ref y.four, .ref rl, .ref y.pl])) (h2 : RwsAt H2 rl R) (h3 : H2 y.pl = some (.lst ((y.ps.reverse.map fun p => V.ref p.tp) ++ [.ref p.tp])))
    (h4 : H2 p.tp = some (.tup [.ref p.four, .ref p.rl])) (e1 : p.four = y.four) (e2 : p.rs = y.rs) (e3 : p.rws = y.rws) (h5 : RwsAt H2 p.rl p.R) (n1 : rl = y.rl ∨ H rl = none) (n2 : H p.rl = none) (g : ∀ r ∈ R, Good r.1 ∧ Good r.2) :
    LsAt K b H2 st { y with R := R, rl := rl, ps := p :: y.ps } := by
  have c : ChgM H [st, y.pl] := fun a z => h.chg a (by
    simp only [List.mem_cons, List.mem_nil_iff, or_false] at z
    rcases z with rfl | rfl
    · exact List.mem_cons_self ..
    · exact List.mem_cons_of_mem _ (List.mem_cons_self ..))
  have nj : ∀ a ∈ lro y, a ∉ [st, y.pl] := fun a z => by
    have := h.dis.2 a z
    simp; exact this
  have nn : ∀ {a}, H a = none → a ≠ st ∧ a ≠ y.pl := fun {a} z => ⟨(by rintro rfl; rw [h.s0] at z; cases z), (by rintro rfl; rw [h.p0] at z; cases z)⟩
  have f2 := h.four.kpL k c (nj _ (List.mem_cons_self ..))
  refine ⟨h1, f2, h2, ?_, fun q hq => ?_, ⟨h.dis.1, fun a z => ?_⟩, g⟩
  · show H2 y.pl = some (.lst ((p :: y.ps).reverse.map fun p => V.ref p.tp))
    rw [h3, List.reverse_cons, List.map_append]; rfl
  · rcases List.mem_cons.mp hq with rfl | hq
    · exact ⟨h4, by rw [e1, e2, e3]; exact f2, h5⟩
    · obtain ⟨a1, a2, a3⟩ := h.ps q hq
      have z : ∀ a ∈ [q.four, q.rl], a ∉ [st, y.pl] := fun a ha => nj a (List.mem_cons_of_mem _ (List.mem_cons_of_mem _ (List.mem_flatMap.mpr ⟨q, hq, ha⟩)))
      exact ⟨kept k c a1 mut_tup, a2.kpL k c (z _ (by simp)), a3.kpL k c (z _ (by simp))⟩
  · have z : a ∈ y.four :: rl :: ([p.four, p.rl] ++ y.ps.flatMap fun p => [p.four, p.rl]) := z
    simp only [List.mem_cons, List.mem_append, List.mem_nil_iff, or_false] at z
    rcases z with z | z | (z | z) | z
    · exact h.dis.2 a (by rw [z]; exact List.mem_cons_self ..)
    · rcases n1 with e | e
      · exact h.dis.2 a (by rw [z, e]; exact List.mem_cons_of_mem _ (List.mem_cons_self ..))
      · rw [z]; exact nn e
    · exact h.dis.2 a (by rw [z, e1]; exact List.mem_cons_self ..)
    · rw [z]; exact nn n2
    · exact h.dis.2 a (List.mem_cons_of_mem _ (List.mem_cons_of_mem _ z))
end
/-! ### its put, strike, find -/
def lputR (f : List Nat → List Nat) (R : List Row2) (l : List Nat) : List Row2 := if f l ∈ R.map (·.1) then R else R ++ [(f l, l)]
def lstrR (f : List Nat → List Nat) (R : List Row2) (l : List Nat) : List Row2 := R.filter fun r => decide (r.1 ≠ f l)
/-- what is told of the past -/
structure LPast (H : Hp) (y : Ls) (p : Lp) (rl : Addr) : Prop where
  R : p.R = y.R
  four : p.four = y.four
  rs : p.rs = y.rs
  rws : p.rws = y.rws
  rl1 : H p.rl = none
  rl2 : rl = y.rl ∨ H rl = none
def stp (y : Ls) (i : Nat) : List Stp := y.rws.getD i []
def spLPut (K : PySem.W.Frag) (b : Nat) : Sp := fun vs H Q _ => ∃ st y l, vs = [.ref st, .str (S l)] ∧ LsAt K b H st y ∧ Good l ∧ y.R.length ≤ 100000 ∧ y.ps.length ≤ 100000 ∧
  ∀ p rl H', LPast H y p rl → LsAt K b H' st { y with R := lputR (mks (stp y 0)) y.R l, rl := rl, ps := p :: y.ps } → KpL [st, y.pl] H H' → Q (.bl (decide (mks (stp y 0) l ∉ y.R.map (·.1)))) H'
def spLStrike (K : PySem.W.Frag) (b : Nat) : Sp := fun vs H Q _ => ∃ st y l, vs = [.ref st, .str (S l)] ∧ LsAt K b H st y ∧ Good l ∧ y.R.length ≤ 100000 ∧ y.ps.length ≤ 100000 ∧
  ∀ p rl H', LPast H y p rl → LsAt K b H' st { y with R := lstrR (mks (stp y 2)) y.R l, rl := rl, ps := p :: y.ps } → KpL [st, y.pl] H H' → Q (.bl (decide (mks (stp y 2) l ∈ y.R.map (·.1)))) H'
def spLFind (K : PySem.W.Frag) (b : Nat) : Sp := fun vs H Q _ => ∃ st y l, vs = [.ref st, .str (S l)] ∧ LsAt K b H st y ∧ Good l ∧ y.R.length ≤ 100000 ∧ ∀ H', Ext H H' → Q (.bl (decide (mks (stp y 1) l ∈ y.R.map (·.1)))) H'
theorem fourB_get {K : PySem.W.Frag} {b : Nat} {H : Hp} {l : Addr} {rs : List Addr} {rws : List (List Stp)} (h : FourB K b H l rs rws) {i : Nat} (hi : i < 4) : ∃ r, atI (rs.map V.ref) ((i : Nat) : Int) = some (.ref r) ∧ RowB K b H r (rws.getD i []) ∧ (rws.getD i []).length ≤ 6 := by
  have e := h.2.1.len
  have hl := h.2.2
  have hr : i < rs.length := by omega
  obtain ⟨sts, e1, h1, h2⟩ := h.2.1.get (i := i) (r := rs[i]) (List.getElem?_eq_getElem hr)
  refine ⟨rs[i], atI_nat (by rw [List.getElem?_map, List.getElem?_eq_getElem hr]; rfl), ?_, ?_⟩
  · rw [List.getD_eq_getElem?_getD, e1]; exact h1
  · rw [List.getD_eq_getElem?_getD, e1]; exact h2
theorem lstr_len {f : List Nat → List Nat} {R : List Row2} {l : List Nat} : decide (((lstrR f R l).length : Int) < ((R.length : Nat) : Int)) = decide (f l ∈ R.map (·.1)) := by
  rw [Bool.eq_iff_iff, decide_eq_true_iff, decide_eq_true_iff]
  have le := List.length_filter_le (fun r : Row2 => decide (r.1 ≠ f l)) R
  constructor
  · intro h
    have h : (lstrR f R l).length < R.length := by omega
    by_cases hm : f l ∈ R.map (·.1)
    · exact hm
    · have : lstrR f R l = R := List.filter_eq_self.mpr fun r hr => decide_eq_true fun e => hm (List.mem_map.mpr ⟨r, hr, e⟩)
      rw [this] at h; omega
  · intro h
    obtain ⟨r, hr, e⟩ := List.mem_map.mp h
    have ne : lstrR f R l ≠ R := fun z => by
      have := (List.filter_eq_self.mp z) r hr
      exact (of_decide_eq_true this) e
    have : (lstrR f R l).length ≠ R.length := fun z => ne (List.filter_sublist.eq_of_length z)
    have le : (lstrR f R l).length ≤ R.length := le
    omega
end Pd

set_option maxHeartbeats 4000000
namespace Pd
open PySem PySem.Spec PyProof.Rows L2 SX
/-- [row[0] for row in rows] -/
theorem lc_heads {K : PySem.W.Frag} {te : TE} {vs : List Nat} {σ : L2.St} {i : Nat} {H1 : Hp} {D l : Addr} {as : List Addr} {R : List Row2} {Qd : Hp → Prop} (hl : H1 l = some (.lst (as.map V.ref))) (pr : PR H1 as R) (hD : H1 D = none) (hz : R.length ≤ 100000)
    (hw : ∀ x, wipe ((wipe σ vs).set i (some x)) vs = wipe σ vs) (ht : ∀ a (r : Row2) H3 (Q : VK), H3 a = some (.tup [.str (S r.1), .str (S r.2)]) → Q (.str (S r.1)) H3 → te ((wipe σ vs).set i (some (.ref a))) H3 Q)
    (hd : ∀ H', Ext H1 H' → H' D = some (.lst (txV (R.map (·.1)))) → Qd H') :
    ∃ W : Nat → Nat → Hp → Prop, (∃ m, W 0 m (upd H1 D (.lst []))) ∧ ∀ i' m H, W i' m H →
      ((Itl K l).stop i' H ∧ Qd H) ∨ ((Itl K l).go i' H ∧ ∃ Nx : Hp → Prop, (∀ H', Nx H' → ∃ m', m' < m ∧ W (i' + 1) m' H') ∧ ∀ x H', (Itl K l).yld i' H x H' → gName i x (wipe σ vs) H' fun σ2 H2 => wipe σ2 vs = wipe σ vs ∧ tYes σ2 H2 fun b H3 =>
        if b = true then te σ2 H3 fun y H4 => ∃ acc, H4 D = some (.lst acc) ∧ acc.length < sizeLine ∧ Nx (upd H4 D (.lst (acc ++ [y]))) else Nx H3) := by
  have len := pr.len
  have nl : l ≠ D := ne_of_none hl hD
  refine lc_it (walk_list (xs := as.map V.ref)) (fun k H' => H' D = some (.lst (txV ((R.take k).map (·.1)))) ∧ Ext H1 H') ⟨by rw [upd_same]; rfl, Ext.refl.new hD⟩ (fun k H' _ p => SqL.of (p.2 _ _ hl)) ?_ ?_
  · rintro k x H2 H3 hk ⟨hD2, k2⟩ ⟨rfl, hx⟩
    rw [List.getElem?_map] at hx
    obtain ⟨a, ha, rfl⟩ := Option.map_eq_some_iff.mp hx
    obtain ⟨r, hr, hra⟩ := pr.get ha
    refine ⟨hw _, ht a r H3 _ (k2 _ _ hra) ⟨_, hD2, ?_, ?_, ?_⟩⟩
    · unfold txV
      rw [List.length_map, List.length_map, List.length_take, sizeLine_eq]; omega
    · rw [upd_same, List.take_add_one, hr]
      show _ = some (HO.lst (txV ((R.take k ++ [r]).map (·.1))))
      unfold txV
      rw [List.map_append, List.map_append]; rfl
    · intro b o e
      rw [upd_ne (ne_of_none e hD)]; exact k2 _ _ e
  · rintro H2 ⟨hD2, k2⟩
    rw [List.length_map, len, List.take_length] at hD2
    exact hd H2 k2 hD2
section
variable {P : Program} {w : World} {K : PySem.W.Frag} {mg : Str → Option Value} {base : Heap}
theorem ok_lfind {f : Addr} {fd : FuncData} (n : Nat) (F : Fun K "_law_find" "_law_find" sLawFind f fd) (G : ClN P w K mg base 1 "_law_fold" (spLFold K)) : FnN n P w K mg base 2 f (spLFind K n) := by
  refine fnN_of F scLawFind (fun kV doc pm an cdv ct us hl => match us, hl with | [_, _], _ => rfl) (fun vs H Q E h => ?_) (fun cdv A outer s H vs Q E hr h => ?_)
  · obtain ⟨p, st, l, rfl, _⟩ := h
    rfl
  · obtain ⟨st, y, l, rfl, L0, hG, hz, q⟩ := h
    have nd := scLawFind.nd
    refine ⟨_, PSsn.nox (pssn_one (psn_ret (pen_cmpR op_in_seq (pen_clN G hr (by decide) rfl (pan (pa_cons (pe_ix ix_list (pe_ix ix_list (pv 0) pe_int (fun _ _ => rfl)) pe_int (fun _ _ => rfl)) (pa_cons (pv 1) pa_nil))))
      (pen (pe_lc (own := [("row", 2)]) (g := gName 2) (tt := tYes) rfl nd (pi_list (pe_ix ix_list (pv 0) pe_int (fun _ _ => rfl))) (blkOk_by (N := ["state", "text", "row"]) (sc := defScope sLawFind) (by decide +kernel)) (fun _ _ _ _ _ => pg_name (i := 2) nd rfl (Or.inl rfl)) (fun _ _ _ _ _ => pts_nil) (fun _ _ _ _ _ => pe_ix (ix_tupK (K := K) rfl) (pv 2) pe_int (fun _ _ => rfl)))) rfl))), ?_⟩
    obtain ⟨r1, a1, R1, h6⟩ := fourB_get L0.four (i := 1) (by decide)
    refine ⟨_, rfl, st, _, 0, _, rfl, rfl, SqL.of L0.s0, rfl, y.four, _, 1, _, rfl, rfl, SqL.of L0.four.1, a1, _, rfl, r1, stp y 1, l, rfl, R1, hG, fun H1 k1 => ?_⟩
    have L1 := L0.ext k1
    obtain ⟨as, e1, p1⟩ := L1.rl
    refine ⟨_, rfl, st, _, 1, _, rfl, rfl, SqL.of L1.s0, rfl, y.rl, rfl, ⟨_, SqL.of e1⟩, fun D hD => lc_heads e1 p1 hD hz (fun _ => rfl) (fun a r H3 Q h q => ⟨_, rfl, a, _, 0, _, rfl, rfl, SqT.of h, rfl, q⟩) fun H2 k2 hD2 => ?_⟩
    refine ⟨D, _, rfl, .inl (SqL.of hD2), rfl, flat_txs, ?_⟩
    show Q (.bl (inV (.str (S (mks (stp y 1) l))) (txV (y.R.map (·.1))))) H2
    rw [in_txs]
    exact q H2 (k1.trans k2)
theorem ok_lput {f : Addr} {fd : FuncData} (n : Nat) (F : Fun K "_law_put" "_law_put" sLawPut f fd) (ml : mg "list" = none) (G : ClN P w K mg base 1 "_law_fold" (spLFold K)) : FnN n P w K mg base 2 f (spLPut K n) := by
  refine fnN_of F scLawPut (fun kV doc pm an cdv ct us hl => match us, hl with | [_, _], _ => rfl) (fun vs H Q E h => ?_) (fun cdv A outer s H vs Q E hr h => ?_)
  · obtain ⟨p, st, l, rfl, _⟩ := h
    rfl
  · obtain ⟨st, y, l, rfl, L0, hG, hz, hp, q⟩ := h
    have nd := scLawPut.nd
    refine ⟨_, PSsn.nox (pssn_cons (psn (ps_expr (pe_bm PySem.F.plainAttrs_list PySem.F.slot_list_append PySem.F.type_list_append mt_append (pe_ix ix_list (pv 0) pe_int (fun _ _ => rfl)) (pa_cons (pe_tup (pa_cons (pe_ix ix_list (pv 0) pe_int (fun _ _ => rfl)) (pa_cons (pe_callTy call_list_of (by rfl) ml (by decide +kernel) (pa_cons (pe_ix ix_list (pv 0) pe_int (fun _ _ => rfl)) pa_nil)) pa_nil))) pa_nil))))
      (pssn_cons (psn_set (i := 2) nd rfl (Or.inl rfl) (pen_clN G hr (by decide) rfl (pan (pa_cons (pe_ix ix_list (pe_ix ix_list (pv 0) pe_int (fun _ _ => rfl)) pe_int (fun _ _ => rfl)) (pa_cons (pv 1) pa_nil)))))
      (pssn (pss_cons (ps_if (pt_cmpR op_in_seq (pv 2) (pe_lc (own := [("row", 3)]) (g := gName 3) (tt := tYes) rfl nd (pi_list (pe_ix ix_list (pv 0) pe_int (fun _ _ => rfl))) (blkOk_by (N := ["state", "text", "form", "row"]) (sc := defScope sLawPut) (by decide +kernel)) (fun _ _ _ _ _ => pg_name (i := 3) nd rfl (Or.inl rfl)) (fun _ _ _ _ _ => pts_nil) (fun _ _ _ _ _ => pe_ix (ix_tupK (K := K) rfl) (pv 3) pe_int (fun _ _ => rfl))) rfl) (pss_one (ps_ret pe_bl)) pss_nil)
      (pss_cons (ps_asg (pe_op op_cat (pe_ix ix_list (pv 0) pe_int (fun _ _ => rfl)) (pe_lst (pa_cons (pe_tup (pa_cons (pv 2) (pa_cons (pv 1) pa_nil))) pa_nil))) (pg_sub (pv 0) pe_int set_list))
      (pss_one (ps_ret pe_bl))))))), ?_⟩
    obtain ⟨as, erl, prl⟩ := id L0.rl
    have lrl := prl.len
    have nst : st ≠ y.pl := L0.dis.1
    refine ⟨_, rfl, st, _, 2, _, rfl, rfl, SqL.of L0.s0, rfl, .inl ⟨rfl, _, SqL.of L0.p0⟩, _, rfl, st, _, 0, _, rfl, rfl, SqL.of L0.s0, rfl, _, rfl, st, _, 1, _, rfl, rfl, SqL.of L0.s0, rfl, y.rl, _, rfl, .inl (SqL.of erl), fun la hla => ⟨by show 2 ≤ sizeLine; decide, fun tp htp => ?_⟩⟩
    have na : ∀ {a o}, H a = some o → a ≠ la := fun h => ne_of_none h hla
    obtain ⟨H1, z1⟩ : ∃ H', H' = upd H la (.lst (as.map V.ref)) := ⟨_, rfl⟩
    rw [← z1] at htp ⊢
    have k1 : Ext H H1 := by rw [z1]; exact Ext.refl.new hla
    obtain ⟨H2, z2⟩ : ∃ H', H' = upd H1 tp (.tup [.ref y.four, .ref la]) := ⟨_, rfl⟩
    rw [← z2]
    have k2 : Ext H1 H2 := by rw [z2]; exact Ext.refl.new htp
    have k02 := k1.trans k2
    refine ⟨y.pl, _, _, rfl, rfl, k02 _ _ L0.p0, by rw [List.length_map, List.length_reverse, sizeLine_eq]; omega, ?_⟩
    obtain ⟨H3, z3⟩ : ∃ H', H' = upd H2 y.pl (.lst ((y.ps.reverse.map fun p => V.ref p.tp) ++ [.ref tp])) := ⟨_, rfl⟩
    rw [← z3]
    have c2 : ChgM H2 [y.pl] := fun a h => by rw [List.mem_singleton.mp h]; exact ⟨_, k02 _ _ L0.p0, .inl ⟨_, rfl⟩⟩
    have k3 : KpL [y.pl] H2 H3 := by rw [z3]; exact .upd (by simp)
    have es3 : H3 st = some (.lst [.ref y.four, .ref y.rl, .ref y.pl]) := k3 _ _ (by simpa using nst) (k02 _ _ L0.s0)
    have nro : ∀ a ∈ lro y, a ∉ [y.pl] := fun a z => by simpa using (L0.dis.2 a z).2
    have f3 : FourB K n H3 y.four y.rs y.rws := (L0.four.ext k02).kpL k3 c2 (nro _ (List.mem_cons_self ..))
    have hla3 : H3 la = some (.lst (as.map V.ref)) := k3 _ _ (by simpa using fun e : la = y.pl => na L0.p0 e.symm) (k2 _ _ (by rw [z1, upd_same]))
    have htp3 : H3 tp = some (.tup [.ref y.four, .ref la]) := k3 _ _ (by simpa using fun e : tp = y.pl => by rw [e, k1 _ _ L0.p0] at htp; cases htp) (by rw [z2, upd_same])
    have erl3 : H3 y.rl = some (.lst (as.map V.ref)) := k3 _ _ (nro _ (List.mem_cons_of_mem _ (List.mem_cons_self ..))) (k02 _ _ erl)
    have prl3 : PR H3 as y.R := prl.same fun p xs z => kept k3 c2 (k02 _ _ z) mut_tup
    have hpl3 : H3 y.pl = some (.lst ((y.ps.reverse.map fun p => V.ref p.tp) ++ [.ref tp])) := by rw [z3, upd_same]
    have k03 : KpL [st, y.pl] H H3 := (KpL.ext k02).trans (k3.mono fun a z => by simp at z; simp [z])
    obtain ⟨r1, a1, R1, h6⟩ := fourB_get f3 (i := 0) (by decide)
    refine ⟨_, rfl, st, _, 0, _, rfl, rfl, SqL.of es3, rfl, y.four, _, 0, _, rfl, rfl, SqL.of f3.1, a1, _, rfl, r1, stp y 0, l, rfl, R1, hG, fun H4 k4 => ?_⟩
    have gf : Good (mks (stp y 0) l) := mks_good R1.ok hG
    have k04 := k03.trans (KpL.ext k4)
    have erl4 := k4 _ _ erl3
    have prl4 : PR H4 as y.R := prl3.same fun p xs z => k4 _ _ z
    refine ⟨_, rfl, _, rfl, st, _, 1, _, rfl, rfl, SqL.of (k4 _ _ es3), rfl, y.rl, rfl, ⟨_, SqL.of erl4⟩, fun D hD => lc_heads erl4 prl4 hD hz (fun _ => rfl) (fun a r H3 Q h q => ⟨_, rfl, a, _, 0, _, rfl, rfl, SqT.of h, rfl, q⟩) fun H5 k5 hD5 => ?_⟩
    refine ⟨D, _, rfl, .inl (SqL.of hD5), rfl, flat_txs, ?_⟩
    show ∃ c, V.bl (inV (.str (S (mks (stp y 0) l))) (txV (y.R.map (·.1)))) = .bl c ∧ _
    rw [in_txs]
    refine ⟨_, rfl, ?_⟩
    have k45 := k4.trans k5
    have k05 := k03.trans (KpL.ext k45)
    have Hla : H la = none := hla
    have past : ∀ rl, rl = y.rl ∨ H rl = none → LPast H y ⟨tp, y.four, y.rs, y.rws, la, y.R⟩ rl := fun rl h => ⟨rfl, rfl, rfl, rfl, Hla, h⟩
    by_cases hm : mks (stp y 0) l ∈ y.R.map (·.1)
    · rw [decide_eq_true hm]
      refine iteT ?_
      have q := q ⟨tp, y.four, y.rs, y.rws, la, y.R⟩ y.rl H5 (past _ (.inl rfl)) (by
        have z := L0.next (p := ⟨tp, y.four, y.rs, y.rws, la, y.R⟩) (R := y.R) (rl := y.rl) k05 (k45 _ _ es3) ⟨as, k45 _ _ erl3, prl3.same fun p xs z => k45 _ _ z⟩ (k45 _ _ hpl3) (k45 _ _ htp3) rfl rfl rfl ⟨as, k45 _ _ hla3, prl3.same fun p xs z => k45 _ _ z⟩ (.inl rfl) Hla L0.good
        unfold lputR
        rw [if_pos hm]
        exact z) k05
      rw [decide_eq_false (not_not_intro hm)] at q
      exact q
    · rw [decide_eq_false hm]
      refine iteF ?_
      have es5 := k45 _ _ es3
      have erl5 := k45 _ _ erl3
      have prl5 : PR H5 as y.R := prl3.same fun p xs z => k45 _ _ z
      refine ⟨_, rfl, st, _, 1, _, rfl, rfl, SqL.of es5, rfl, _, rfl, _, rfl, by show 2 ≤ sizeLine; decide, fun pr hpr => ⟨by show 1 ≤ sizeLine; decide, fun lx hlx => ?_⟩⟩
      obtain ⟨H6, z6⟩ : ∃ H', H' = upd H5 pr (.tup [.str (S (mks (stp y 0) l)), .str (S l)]) := ⟨_, rfl⟩
      rw [← z6] at hlx ⊢
      have k6 : Ext H5 H6 := by rw [z6]; exact Ext.refl.new hpr
      obtain ⟨H7, z7⟩ : ∃ H', H' = upd H6 lx (.lst [.ref pr]) := ⟨_, rfl⟩
      rw [← z7]
      have k7 : Ext H6 H7 := by rw [z7]; exact Ext.refl.new hlx
      have k57 := k6.trans k7
      refine ⟨y.rl, lx, _, _, rfl, rfl, k57 _ _ erl5, by rw [z7, upd_same], by rw [List.length_map, lrl, sizeLine_eq]; show _ + 1 ≤ _; omega, fun rl hrl => ?_⟩
      obtain ⟨H8, z8⟩ : ∃ H', H' = upd H7 rl (.lst (as.map V.ref ++ [.ref pr])) := ⟨_, rfl⟩
      rw [← z8]
      have k8 : Ext H7 H8 := by rw [z8]; exact Ext.refl.new hrl
      have k58 := k57.trans k8
      have es8 := k58 _ _ es5
      refine ⟨_, rfl, st, _, 1, 1, rfl, rfl, es8, rfl, ?_⟩
      have k59 : KpL [st] H8 (upd H8 st (.lst [.ref y.four, .ref rl, .ref y.pl])) := .upd (by simp)
      have c8 : ChgM H8 [st] := fun a h => by rw [List.mem_singleton.mp h]; exact ⟨_, es8, .inl ⟨_, rfl⟩⟩
      have Hrl : H rl = none := by
        refine k05.ne (H' := H5) ?_ (fun z => ?_)
        · cases e : H5 rl with
          | none => rfl
          | some o => rw [k57 _ _ e] at hrl; cases hrl
        · simp only [List.mem_cons, List.mem_nil_iff, or_false] at z
          rcases z with e | e
          · rw [e, k57 _ _ es5] at hrl; cases hrl
          · rw [e, k57 _ _ (k45 _ _ hpl3)] at hrl; cases hrl
      have ns : ∀ {a}, a ≠ st → a ∉ [st] := fun h => by simpa using h
      have rls : rl ≠ st := by rintro rfl; rw [L0.s0] at Hrl; cases Hrl
      have las : la ≠ st := by rintro rfl; rw [L0.s0] at Hla; cases Hla
      have hr9 : (upd H8 st (.lst [.ref y.four, .ref rl, .ref y.pl])) rl = some (.lst (as.map V.ref ++ [.ref pr])) := by rw [upd_ne rls, z8, upd_same]
      have hpr8 : H8 pr = some (.tup [.str (S (mks (stp y 0) l)), .str (S l)]) := (k7.trans k8) _ _ (by rw [z6, upd_same])
      have k09 : KpL [st, y.pl] H (upd H8 st (.lst [.ref y.four, .ref rl, .ref y.pl])) := (k05.trans (KpL.ext k58)).in_ (by simp)
      have q := q ⟨tp, y.four, y.rs, y.rws, la, y.R⟩ rl _ (past _ (.inr Hrl)) (by
        have z := L0.next (p := ⟨tp, y.four, y.rs, y.rws, la, y.R⟩) (R := y.R ++ [(mks (stp y 0) l, l)]) (rl := rl) k09 upd_same ⟨as ++ [pr], by rw [hr9, List.map_append]; rfl, (prl5.same fun p xs z => kept k59 c8 (k58 _ _ z) mut_tup).snoc (kept k59 c8 hpr8 mut_tup)⟩ (k59 _ _ (ns (Ne.symm nst)) (k58 _ _ (k45 _ _ hpl3))) (kept k59 c8 (k58 _ _ (k45 _ _ htp3)) mut_tup) rfl rfl rfl
          ⟨as, k59 _ _ (ns las) (k58 _ _ (k45 _ _ hla3)), prl5.same fun p xs z => kept k59 c8 (k58 _ _ z) mut_tup⟩ (.inr Hrl) Hla (fun r hr => by
            rcases List.mem_append.mp hr with h | h
            · exact L0.good r h
            · rw [List.mem_singleton.mp h]; exact ⟨gf, hG⟩)
        unfold lputR
        rw [if_neg hm]
        exact z) k09
      rw [decide_eq_true hm] at q
      exact q
theorem ok_lstrike {f : Addr} {fd : FuncData} (n : Nat) (F : Fun K "_law_strike" "_law_strike" sLawStrike f fd) (T : Nms mg) (ml : mg "list" = none) (G : ClN P w K mg base 1 "_law_fold" (spLFold K)) : FnN n P w K mg base 2 f (spLStrike K n) := by
  refine fnN_of F scLawStrike (fun kV doc pm an cdv ct us hl => match us, hl with | [_, _], _ => rfl) (fun vs H Q E h => ?_) (fun cdv A outer s H vs Q E hr h => ?_)
  · obtain ⟨p, st, l, rfl, _⟩ := h
    rfl
  · obtain ⟨st, y, l, rfl, L0, hG, hz, hp, q⟩ := h
    have nd := scLawStrike.nd
    refine ⟨_, PSsn.nox (pssn_cons (psn (ps_expr (pe_bm PySem.F.plainAttrs_list PySem.F.slot_list_append PySem.F.type_list_append mt_append (pe_ix ix_list (pv 0) pe_int (fun _ _ => rfl)) (pa_cons (pe_tup (pa_cons (pe_ix ix_list (pv 0) pe_int (fun _ _ => rfl)) (pa_cons (pe_callTy call_list_of (by rfl) ml (by decide +kernel) (pa_cons (pe_ix ix_list (pv 0) pe_int (fun _ _ => rfl)) pa_nil)) pa_nil))) pa_nil))))
      (pssn_cons (psn_set (i := 2) nd rfl (Or.inr rfl) (pen_clN G hr (by decide) rfl (pan (pa_cons (pe_ix ix_list (pe_ix ix_list (pv 0) pe_int (fun _ _ => rfl)) pe_int (fun _ _ => rfl)) (pa_cons (pv 1) pa_nil)))))
      (pssn (pss_cons (ps_setLc (i := 3) (own := [("row", 5)]) (g := gName 5) rfl nd rfl rfl (sw_true rfl rfl rfl (by decide +kernel)) (pi_list (pe_ix ix_list (pv 0) pe_int (fun _ _ => rfl))) (blkOk_by (N := ["state", "text", "form", "rest", "found", "row"]) (sc := defScope sLawStrike) (by decide +kernel)) (fun _ _ _ _ _ => pg_name (i := 5) nd rfl (Or.inl rfl)) (fun _ _ _ _ _ => pts_one (pt_cmpR op_ne (pe_ix (ix_tupK (K := K) rfl) (pv 5) pe_int (fun _ _ => rfl)) (pv 2) (nomark _))) (fun _ _ _ _ _ => pv 5))
      (pss_cons (ps_set (i := 4) nd rfl (Or.inl rfl) (pe_cmpR op_lt (pe_callB call_len_seq (by rfl) T.len PySem.boot_len (pa_cons (pv 3) pa_nil)) (pe_callB call_len_seq (by rfl) T.len PySem.boot_len (pa_cons (pe_ix ix_list (pv 0) pe_int (fun _ _ => rfl)) pa_nil)) (nomark _)))
      (pss_cons (ps_asg (pv 3) (pg_sub (pv 0) pe_int set_list))
      (pss_one (ps_ret (pv 4))))))))), ?_⟩
    obtain ⟨as, erl, prl⟩ := id L0.rl
    have lrl := prl.len
    have nst : st ≠ y.pl := L0.dis.1
    refine ⟨_, rfl, st, _, 2, _, rfl, rfl, SqL.of L0.s0, rfl, .inl ⟨rfl, _, SqL.of L0.p0⟩, _, rfl, st, _, 0, _, rfl, rfl, SqL.of L0.s0, rfl, _, rfl, st, _, 1, _, rfl, rfl, SqL.of L0.s0, rfl, y.rl, _, rfl, .inl (SqL.of erl), fun la hla => ⟨by show 2 ≤ sizeLine; decide, fun tp htp => ?_⟩⟩
    have na : ∀ {a o}, H a = some o → a ≠ la := fun h => ne_of_none h hla
    obtain ⟨H1, z1⟩ : ∃ H', H' = upd H la (.lst (as.map V.ref)) := ⟨_, rfl⟩
    rw [← z1] at htp ⊢
    have k1 : Ext H H1 := by rw [z1]; exact Ext.refl.new hla
    obtain ⟨H2, z2⟩ : ∃ H', H' = upd H1 tp (.tup [.ref y.four, .ref la]) := ⟨_, rfl⟩
    rw [← z2]
    have k2 : Ext H1 H2 := by rw [z2]; exact Ext.refl.new htp
    have k02 := k1.trans k2
    refine ⟨y.pl, _, _, rfl, rfl, k02 _ _ L0.p0, by rw [List.length_map, List.length_reverse, sizeLine_eq]; omega, ?_⟩
    obtain ⟨H3, z3⟩ : ∃ H', H' = upd H2 y.pl (.lst ((y.ps.reverse.map fun p => V.ref p.tp) ++ [.ref tp])) := ⟨_, rfl⟩
    rw [← z3]
    have c2 : ChgM H2 [y.pl] := fun a h => by rw [List.mem_singleton.mp h]; exact ⟨_, k02 _ _ L0.p0, .inl ⟨_, rfl⟩⟩
    have k3 : KpL [y.pl] H2 H3 := by rw [z3]; exact .upd (by simp)
    have es3 : H3 st = some (.lst [.ref y.four, .ref y.rl, .ref y.pl]) := k3 _ _ (by simpa using nst) (k02 _ _ L0.s0)
    have nro : ∀ a ∈ lro y, a ∉ [y.pl] := fun a z => by simpa using (L0.dis.2 a z).2
    have f3 : FourB K n H3 y.four y.rs y.rws := (L0.four.ext k02).kpL k3 c2 (nro _ (List.mem_cons_self ..))
    have hla3 : H3 la = some (.lst (as.map V.ref)) := k3 _ _ (by simpa using fun e : la = y.pl => na L0.p0 e.symm) (k2 _ _ (by rw [z1, upd_same]))
    have htp3 : H3 tp = some (.tup [.ref y.four, .ref la]) := k3 _ _ (by simpa using fun e : tp = y.pl => by rw [e, k1 _ _ L0.p0] at htp; cases htp) (by rw [z2, upd_same])
    have erl3 : H3 y.rl = some (.lst (as.map V.ref)) := k3 _ _ (nro _ (List.mem_cons_of_mem _ (List.mem_cons_self ..))) (k02 _ _ erl)
    have prl3 : PR H3 as y.R := prl.same fun p xs z => kept k3 c2 (k02 _ _ z) mut_tup
    have hpl3 : H3 y.pl = some (.lst ((y.ps.reverse.map fun p => V.ref p.tp) ++ [.ref tp])) := by rw [z3, upd_same]
    have k03 : KpL [st, y.pl] H H3 := (KpL.ext k02).trans (k3.mono fun a z => by simp at z; simp [z])
    obtain ⟨r1, a1, R1, h6⟩ := fourB_get f3 (i := 2) (by decide)
    refine ⟨_, rfl, st, _, 0, _, rfl, rfl, SqL.of es3, rfl, y.four, _, 2, _, rfl, rfl, SqL.of f3.1, a1, _, rfl, r1, stp y 2, l, rfl, R1, hG, fun H4 k4 => ?_⟩
    have k04 := k03.trans (KpL.ext k4)
    have erl4 := k4 _ _ erl3
    have prl4 : PR H4 as y.R := prl3.same fun p xs z => k4 _ _ z
    refine ⟨_, rfl, st, _, 1, _, rfl, rfl, SqL.of (k4 _ _ es3), rfl, y.rl, rfl, ⟨_, SqL.of erl4⟩, fun D hD => ?_⟩
    have Hla : H la = none := hla
    have HD : H D = none := k04.ne hD (fun z => by
      simp only [List.mem_cons, List.mem_nil_iff, or_false] at z
      rcases z with e | e
      · rw [e, k4 _ _ es3] at hD; cases hD
      · rw [e, k4 _ _ hpl3] at hD; cases hD)
    refine lc_it (walk_list (xs := as.map V.ref)) (fun k H' => (∃ as', H' D = some (.lst (as'.map V.ref)) ∧ PR H' as' (lstrR (mks (stp y 2)) (y.R.take k) l)) ∧ Ext H4 H') ⟨⟨[], upd_same, .nil⟩, Ext.refl.new hD⟩ (fun k H' _ p => SqL.of (p.2 _ _ erl4)) ?_ ?_
    · rintro k x H5 H6 hk ⟨⟨as', hD5, pr5⟩, k5⟩ ⟨rfl, hx⟩
      rw [List.getElem?_map] at hx
      obtain ⟨a, ha, rfl⟩ := Option.map_eq_some_iff.mp hx
      obtain ⟨r, hr, hra⟩ := prl4.get ha
      refine ⟨rfl, _, rfl, a, _, 0, _, rfl, rfl, SqT.of (k5 _ _ hra), rfl, _, rfl, rfl, _, rfl, ?_⟩
      have et : lstrR (mks (stp y 2)) (y.R.take (k + 1)) l = lstrR (mks (stp y 2)) (y.R.take k) l ++ (if r.1 = mks (stp y 2) l then [] else [r]) := by
        unfold lstrR
        rw [List.take_add_one, hr, List.filter_append]
        congr 1
        by_cases e : r.1 = mks (stp y 2) l
        · rw [if_pos e]; exact List.filter_eq_nil_iff.mpr fun b hb => by
            have : b = r := by simpa using hb
            rw [this]; simp [e]
        · rw [if_neg e]; exact List.filter_eq_self.mpr fun b hb => by
            have : b = r := by simpa using hb
            rw [this]; exact decide_eq_true e
      show if (!decide (V.str (S r.1) = V.str (S (mks (stp y 2) l)))) = true then _ else _
      rw [dec_S]
      by_cases e : r.1 = mks (stp y 2) l
      · rw [decide_eq_true e]
        refine iteF ⟨⟨as', hD5, ?_⟩, k5⟩
        rw [et, if_pos e, List.append_nil]; exact pr5
      · rw [decide_eq_false e]
        have al : as'.length ≤ 100000 := by
          rw [pr5.len]
          have := List.length_filter_le (fun r : Row2 => decide (r.1 ≠ mks (stp y 2) l)) (y.R.take k)
          have h2 : (y.R.take k).length ≤ y.R.length := by rw [List.length_take]; omega
          show (List.filter _ _).length ≤ _
          omega
        have kk : KpL [D] H6 (upd H6 D (.lst (as'.map V.ref ++ [.ref a]))) := .upd (by simp)
        have cc : ChgM H6 [D] := fun b h => by rw [List.mem_singleton.mp h]; exact ⟨_, hD5, .inl ⟨_, rfl⟩⟩
        refine iteT ⟨_, rfl, _, hD5, by rw [List.length_map, sizeLine_eq]; omega, ⟨as' ++ [a], by rw [upd_same, List.map_append]; rfl, ?_⟩, fun b o h => by rw [upd_ne (ne_of_none h hD)]; exact k5 _ _ h⟩
        rw [et, if_neg e]
        exact (pr5.same fun p xs z => kept kk cc z mut_tup).snoc (kept kk cc (k5 _ _ hra) mut_tup)
    · rintro H5 ⟨⟨as', hD5, pr5⟩, k5⟩
      rw [List.length_map, lrl, List.take_length] at pr5
      have k45 := k4.trans k5
      have k05 := k03.trans (KpL.ext k45)
      have es5 := k45 _ _ es3
      have erl5 := k45 _ _ erl3
      have prl5 : PR H5 as y.R := prl3.same fun p xs z => k45 _ _ z
      refine ⟨_, rfl, D, _, rfl, .inl (SqL.of hD5), _, rfl, st, _, 1, _, rfl, rfl, SqL.of es5, rfl, y.rl, _, rfl, .inl (SqL.of erl5), _, _, rfl, rfl, ?_⟩
      rw [List.length_map, List.length_map, pr5.len, lrl]
      show gName 4 (V.bl (decide (((lstrR (mks (stp y 2)) y.R l).length : Int) < ((y.R.length : Nat) : Int)))) _ _ _
      rw [lstr_len]
      refine ⟨_, rfl, _, rfl, st, _, 1, 1, rfl, rfl, es5, rfl, _, rfl, ?_⟩
      have k59 : KpL [st] H5 (upd H5 st (.lst [.ref y.four, .ref D, .ref y.pl])) := .upd (by simp)
      have c8 : ChgM H5 [st] := fun a h => by rw [List.mem_singleton.mp h]; exact ⟨_, es5, .inl ⟨_, rfl⟩⟩
      have ns : ∀ {a}, a ≠ st → a ∉ [st] := fun h => by simpa using h
      have rls : D ≠ st := by rintro rfl; rw [L0.s0] at HD; cases HD
      have las : la ≠ st := by rintro rfl; rw [L0.s0] at Hla; cases Hla
      have k09 : KpL [st, y.pl] H (upd H5 st (.lst [.ref y.four, .ref D, .ref y.pl])) := k05.in_ (by simp)
      refine q ⟨tp, y.four, y.rs, y.rws, la, y.R⟩ D _ ⟨rfl, rfl, rfl, rfl, Hla, .inr HD⟩ ?_ k09
      exact L0.next (p := ⟨tp, y.four, y.rs, y.rws, la, y.R⟩) (R := lstrR (mks (stp y 2)) y.R l) (rl := D) k09 upd_same ⟨as', k59 _ _ (ns rls) hD5, pr5.same fun p xs z => kept k59 c8 z mut_tup⟩ (k59 _ _ (ns (Ne.symm nst)) (k45 _ _ hpl3)) (kept k59 c8 (k45 _ _ htp3) mut_tup) rfl rfl rfl
          ⟨as, k59 _ _ (ns las) (k45 _ _ hla3), prl5.same fun p xs z => kept k59 c8 z mut_tup⟩ (.inr HD) Hla (fun r hr => L0.good r (List.mem_filter.mp hr).1)
end
end Pd

set_option maxHeartbeats 4000000
namespace Pd
open PySem PySem.Spec PyProof.Rows L2 SX
/-! ### drawn texts -/
theorem upCH : ∀ c ∈ CH, c < 128 ∧ up1 c ∈ CH := by decide
theorem upper_good {l : List Nat} (h : Good l) : Txt.upper (S l) = S (l.map up1) ∧ Good (l.map up1) := by
  refine ⟨upper_S (by rw [List.all_eq_true]; exact fun c hc => decide_eq_true (upCH c (h.1 c hc)).1), fun c hc => ?_, by rw [List.length_map]; exact h.2⟩
  obtain ⟨d, hd, rfl⟩ := List.mem_map.mp hc
  exact (upCH d (h.1 d hd)).2
theorem txs_dp {K : PySem.W.Frag} {H : Hp} : ∀ {ts : List (List Nat)}, DpAll K H (txV ts) (ts.map fun t => PyData.str (S t))
  | [] => .nil
  | t :: ts => .cons (.str _) txs_dp
theorem txs_shape {ts : List (List Nat)} (h : ∀ t ∈ ts, Good t) : SeqAt.shaped (.list (ts.map fun t => PyData.str (S t))) = true := by
  have key : PyData.canLayAll0 (ts.map fun t => PyData.str (S t)) = true ∧ PyData.depthAll (ts.map fun t => PyData.str (S t)) ≤ 0 := by
    induction ts with
    | nil => exact ⟨rfl, Nat.zero_le _⟩
    | cons t ts ih =>
      obtain ⟨h1, h2⟩ := ih fun s hs => h s (List.mem_cons_of_mem _ hs)
      have z := strOk_CH (h t (List.mem_cons_self ..)).1
      refine ⟨?_, ?_⟩
      · rw [List.map_cons]; simp only [PyData.canLayAll0, PyData.canLay0, h1, z, Bool.and_self]
      · rw [List.map_cons]; simp only [PyData.depthAll, PyData.depth]; omega
  unfold SeqAt.shaped
  simp only [PyData.canLay0, PyData.depth, key.1, Bool.true_and]
  exact decide_eq_true (by have := key.2; omega)
theorem eqv_nil {ds : List PyData} : PyData.eqv (.list ds) (.list []) = ds.isEmpty := by
  cases ds <;> simp [PyData.eqv, PyData.eqvAll]
def spTxt : Sp := fun vs H Q _ => ∃ (j u : Addr) (n : Nat) (l : List Nat) (ts : List (List Nat)), vs = [.ref j, .str (S l), .ref u] ∧ JarAt H j n ∧ PoolOk l ∧ H u = some (.lst (txV ts)) ∧ (∀ t ∈ ts, Good t) ∧ ts.length ≤ 1000 ∧ u ≠ j ∧ n + 400 < 1000000 ∧
  ∀ x H', Good x → JarAt H' j (n + 400) → Kp j H H' → Q (.str (S x)) H'
def spLUsed : Sp := fun vs H Q _ => ∃ (u : Addr) (l : List Nat) (ts : List (List Nat)), vs = [.ref u, .str (S l)] ∧ H u = some (.lst (txV ts)) ∧ ∀ ts' H', (ts' = ts ∨ (ts.length < 30 ∧ ts' = ts ++ [l])) → H' = upd H u (.lst (txV ts')) → Q (.str (S l)) H'
theorem txs_get {ts : List (List Nat)} {i : Int} (h0 : 0 ≤ i) (h1 : i < (ts.length : Nat)) : ∃ t ∈ ts, atI (txV ts) i = some (.str (S t)) := by
  have hi : i.toNat < ts.length := by omega
  refine ⟨ts[i.toNat], List.getElem_mem hi, ?_⟩
  have z := atI_nat (xs := txV ts) (j := i.toNat) (v := .str (S ts[i.toNat])) (by unfold txV; rw [List.getElem?_map, List.getElem?_eq_getElem hi]; rfl)
  rw [show ((i.toNat : Nat) : Int) = i by omega] at z
  exact z
section
variable {P : Program} {w : World} {K : PySem.W.Frag} {mg : Str → Option Value} {base : Heap}
theorem ok_lused {f : Addr} {fd : FuncData} (F : Fun K "_law_used" "_law_used" sLawUsed f fd) (T : Nms mg) : FnOk P w K mg base CX0 1 f fd ["used", "text"] spLUsed := by
  refine F.ok scLawUsed (fun vs H Q E h => ?_) (fun cdv A outer s H vs Q E hr h => ?_)
  · obtain ⟨u, l, ts, rfl, _⟩ := h
    rfl
  · obtain ⟨u, l, ts, rfl, hu, q⟩ := h
    refine ⟨_, pss_cons (ps_if (pt_cmpR op_lt (pe_callB call_len_seq (by rfl) T.len PySem.boot_len (pa_cons (pv 0) pa_nil)) pe_int (nomark _)) (pss_one (ps_expr (pe_bm PySem.F.plainAttrs_list PySem.F.slot_list_append PySem.F.type_list_append mt_append (pv 0) (pa_cons (pv 1) pa_nil)))) pss_nil) (pss_one (ps_ret (pv 1))), ?_⟩
    refine ⟨_, rfl, u, _, rfl, .inl (SqL.of hu), _, _, rfl, rfl, _, rfl, ite2 (fun h => ?_) (fun _ => ?_)⟩
    · have h : (((txV ts).length : Nat) : Int) < 30 := of_decide_eq_true h
      have e : (txV ts).length = ts.length := List.length_map _
      refine ⟨_, rfl, .inl ⟨rfl, _, SqL.of hu⟩, _, rfl, u, _, _, rfl, rfl, hu, by rw [sizeLine_eq]; omega, _, rfl, ?_⟩
      refine q (ts ++ [l]) _ (.inr ⟨by omega, rfl⟩) ?_
      unfold txV
      rw [List.map_append]; rfl
    · refine ⟨_, rfl, q ts _ (.inl rfl) ?_⟩
      funext b
      by_cases hb : b = u
      · subst hb; rw [upd_same]; exact hu
      · rw [upd_ne hb]
theorem ok_ltext {f : Addr} {fd : FuncData} (F : Fun K "_law_text" "_law_text" sLawText f fd) (T : Nms mg) (D : Cl P w K mg base 1 "_law_draw" spDraw) (G : ClT P w K mg base 2 "_law_character" spCharacter) : FnOk P w K mg base CX0 3 f fd ["well", "pool", "used"] spTxt := by
  refine F.ok scLawText (fun vs H Q E h => ?_) (fun cdv A outer s H vs Q E hr h => ?_)
  · obtain ⟨j, u, n, l, ts, rfl, _⟩ := h
    rfl
  · obtain ⟨j, u, n, l, ts, rfl, hJ, hP, hu, hg, hz, nuj, hn, q⟩ := h
    have nd := scLawText.nd
    refine ⟨_, C8.pss_cut (ps_set (i := 3) nd rfl (Or.inl rfl) (pe_ifExp (pt_cmpR op_lt (pe_callB call_len_seq (by rfl) T.len PySem.boot_len (pa_cons (pv 2) pa_nil)) pe_int (nomark _)) (pe_cl D hr (by decide) rfl (pa_cons (pv 0) (pa_cons pe_int pa_nil))) pe_int))
      (C8.pss_cut (ps_if (PW.pt (pw_and (pt_cmpR (op_neD hr.units) (pv 2) (pe_lst pa_nil) (nomark _)) (pw_and1 (pt_cmpR op_lt (pv 3) pe_int (nomark _)))))
        (pss_cons (ps_par (i := 4) (j := 5) rfl nd rfl rfl (by decide) rfl rfl (pa_cons (pe_ix ix_list (pv 2) (pe_cl D hr (by decide) rfl (pa_cons (pv 0) (pa_cons (pe_callB call_len_seq (by rfl) T.len PySem.boot_len (pa_cons (pv 2) pa_nil)) pa_nil))) (fun _ _ => rfl)) (pa_cons (pe_cl D hr (by decide) rfl (pa_cons (pv 0) (pa_cons pe_int pa_nil))) pa_nil)) (by rfl))
        (pss_cons (ps_if (pt_cmpR op_eq (pv 3) pe_int (nomark _)) (pss_one (ps_ret (pe_upper (pv 4)))) pss_nil)
        (pss_cons (ps_if (PW.pt (pw_and (pt_cmpR op_eq (pv 3) pe_int (nomark _)) (pw_and1 (pt_cmpR op_lt (pe_callB call_len_str (by rfl) T.len PySem.boot_len (pa_cons (pv 4) pa_nil)) pe_int (nomark _)))))
          (pss_one (ps_ret (pe_op op_add_str (pe_op op_add_str (pe_slice C8.sl_txt (pv 4) po_none (po_some (pv 5))) (PEF.pe (pef_cl G hr (by decide) rfl (pa_cons (pv 0) (pa_cons (pv 1) pa_nil))))) (pe_slice C8.sl_txt (pv 4) (po_some (pv 5)) po_none)))) pss_nil)
        (pss_one (ps_ret (pv 4)))))) pss_nil)
      (C8.pss_cut (ps_set (i := 6) nd rfl (Or.inl rfl) (pe_ifExp (pt_cmpR op_eq (pv 3) pe_int (nomark _)) pe_int (pe_cl D hr (by decide) rfl (pa_cons (pv 0) (pa_cons pe_int pa_nil)))))
      (pss_cons (ps_set (i := 4) nd rfl (Or.inl rfl) pe_str)
      (pss_cons (ps_for PassesOwn.never rfl (pi_range1 rfl T.range (pa_cons (pv 6) pa_nil)) (pg_name (i := 7) nd rfl (Or.inl rfl))
        (pss_one (ps_if (pt_cmpR op_lt (pe_callB call_len_str (by rfl) T.len PySem.boot_len (pa_cons (pv 4) pa_nil)) (pv 6) (nomark _))
          (pss_one (ps_set (i := 4) nd rfl (Or.inl rfl) (pe_op op_add_str (pv 4) (pe_op op_mulS (PEF.pe (pef_cl G hr (by decide) rfl (pa_cons (pv 0) (pa_cons (pv 1) pa_nil)))) (pe_op op_add pe_int (pe_cl D hr (by decide) rfl (pa_cons (pv 0) (pa_cons pe_int pa_nil)))))))) pss_nil)))
      (pss_one (ps_ret (pe_slice C8.sl_txt (pv 4) po_none (po_some (pv 6))))))))), ?_⟩
    obtain ⟨hPl, hPc⟩ := id hP
    have eu : (txV ts).length = ts.length := List.length_map _
    refine ⟨fun σ' H' => ∃ way, σ' = [some (.ref j), some (.str (S l)), some (.ref u), some (.int way), none, none, none, none] ∧ 0 ≤ way ∧ way < 6 ∧ JarAt H' j (n + 1) ∧ Kp j H H', ?_, ?_⟩
    · refine ⟨_, rfl, u, _, rfl, .inl (SqL.of hu), _, _, rfl, rfl, _, rfl, ite2 (fun _ => ?_) (fun _ => ?_)⟩
      · exact ⟨_, rfl, j, 6, n, rfl, hJ, by omega, by decide, by decide, fun r H1 h0 h1 J1 k1 => ⟨r, rfl, h0, h1, J1, k1⟩⟩
      · exact ⟨0, rfl, by decide, by decide, hJ.le (by omega), fun _ _ _ h => h⟩
    rintro σ1 H1 ⟨way, rfl, hw0, hw6, J1, k1⟩
    have hu1 := k1 _ _ nuj hu
    obtain ⟨ys1, hy1⟩ := J1.lst
    have big : ∀ {x : List Nat} {H' : Hp}, Good x → JarAt H' j (n + 400) → Kp j H H' → Q (.str (S x)) H' := fun {x H'} a b c => q x H' a b c
    refine ⟨fun σ' H' => σ' = [some (.ref j), some (.str (S l)), some (.ref u), some (.int way), none, none, none, none] ∧ JarAt H' j (n + 1) ∧ Kp j H H', ?_, ?_⟩
    rotate_left
    · rintro σ2 H2 ⟨rfl, J2, k2⟩
      refine ⟨fun σ' H' => ∃ size, σ' = [some (.ref j), some (.str (S l)), some (.ref u), some (.int way), none, none, some (.int size), none] ∧ 0 ≤ size ∧ size ≤ 60 ∧ JarAt H' j (n + 2) ∧ Kp j H H', ?_, ?_⟩
      · refine ⟨_, rfl, rfl, _, rfl, ite2 (fun _ => ?_) (fun _ => ?_)⟩
        · exact ⟨60, rfl, by decide, by decide, J2.le (by omega), k2⟩
        · exact ⟨_, rfl, j, 9, _, rfl, J2, by omega, by decide, by decide, fun r H3 h0 h1 J3 k3 => ⟨r, rfl, h0, by omega, J3, k2.trans k3⟩⟩
      rintro σ3 H3 ⟨size, rfl, hs0, hs6, J3, k3⟩
      refine ⟨_, rfl, size, rfl, by omega, by omega, ?_⟩
      refine for_range (lo := 0) (n := size.toNat) (fun i σ H' => ∃ (m : List Nat) (u7 : Option V), σ = [some (.ref j), some (.str (S l)), some (.ref u), some (.int way), some (.str (S m)), none, some (.int size), u7] ∧ (∀ c ∈ m, c ∈ CH) ∧ m.length ≤ 70 ∧ JarAt H' j (n + 2 + 4 * i) ∧ Kp j H H')
        ⟨[], none, rfl, (fun _ h => nomatch h), by decide, J3, k3⟩ ?_ ?_
      · rintro i σ H4 hi ⟨m, u7, rfl, hm, hml, J4, k4⟩
        refine ⟨_, rfl, _, rfl, by rw [S_len, sizeLine_eq]; omega, _, rfl, _, _, rfl, rfl, _, rfl, ite2 (fun h => ?_) (fun _ => ⟨m, _, rfl, hm, hml, J4.le (by omega), k4⟩)⟩
        have h : ((S m).length : Int) < size := of_decide_eq_true h
        rw [S_len] at h
        refine ⟨_, rfl, _, rfl, _, rfl, j, _, l, rfl, J4, hP, by omega, fun c H5 hc J5 k5 => ?_⟩
        refine ⟨_, rfl, j, 3, _, rfl, J5, by omega, by decide, by decide, fun r H6 h0 h1 J6 k6 => ⟨_, _, rfl, rfl, sg c, 1 + r, rfl, rfl, mulOk_S (l := [c]) (by omega) (by omega) (by show 1 ≤ 1000; decide), ?_⟩⟩
        obtain ⟨m2, e2, l2, h2⟩ := mul_S [c] (n := 1 + r) (by omega)
        rw [sg_S, e2]
        have l2 : m2.length ≤ 3 := by
          have : (1 + r).toNat ≤ 3 := by omega
          have e1 : ([c] : List Nat).length = 1 := rfl
          rw [e1, Nat.mul_one] at l2
          omega
        refine ⟨_, _, rfl, rfl, by rw [S_len, S_len, sizeLine_eq]; omega, ?_⟩
        rw [S_cat]
        refine ⟨m ++ m2, _, rfl, fun d hd => ?_, by rw [List.length_append]; omega, J6.le (by omega), (k4.trans k5).trans k6⟩
        rcases List.mem_append.mp hd with h | h
        · exact hm d h
        · have := h2 d h
          rw [List.mem_singleton.mp this]; exact hc
      · rintro σ H4 ⟨m, u7, rfl, hm, hml, J4, k4⟩
        refine ⟨_, rfl, _, rfl, size, rfl, S m, rfl, by rw [S_len, sizeLine_eq]; omega, ?_⟩
        rw [slice_to hs0]
        exact q _ H4 ⟨fun c hc => hm c (List.mem_of_mem_take hc), by rw [List.length_take]; omega⟩ (J4.le (by omega)) k4
    refine ⟨_, rfl, by show 0 ≤ sizeLine; decide, fun le hle => ?_⟩
    have nu : u ≠ le := ne_of_none hu1 hle
    obtain ⟨H2, z2⟩ : ∃ H', H' = upd H1 le (.lst []) := ⟨_, rfl⟩
    rw [← z2]
    have k2e : Ext H1 H2 := by rw [z2]; exact Ext.refl.new hle
    have J2 := J1.ext k2e
    have k2 := k1.trans k2e.kp
    have hu2 := k2e _ _ hu1
    refine ⟨.list (ts.map fun t => PyData.str (S t)), .list [], .lst (SqL.of hu2) txs_dp, .lst (SqL.of (xs := []) (by rw [z2, upd_same])) .nil, txs_shape hg, txs_shape (ts := []) (fun _ h => nomatch h), ?_⟩
    rw [eqv_nil]
    refine ⟨_, rfl, ?_⟩
    cases ts with
    | nil => exact iteF ⟨rfl, J2, k2⟩
    | cons t0 ts0 =>
      refine iteT ⟨_, rfl, _, _, rfl, rfl, _, rfl, ite2 (fun _ => ?_) (fun _ => ⟨rfl, J2, k2⟩)⟩
      refine ⟨_, rfl, _, rfl, _, rfl, u, _, rfl, .inl (SqL.of hu2), j, _, _, rfl, J2, by omega, ?_, ?_, fun r H3 h0 h1 J3 k3 => ?_⟩
      · rw [eu]; show (1 : Int) ≤ ((ts0.length + 1 : Nat) : Int); omega
      · rw [eu]; omega
      rw [eu] at h1
      have hu3 := k3 _ _ nuj hu2
      obtain ⟨t, ht, et⟩ := txs_get h0 h1
      have gt := hg t ht
      refine ⟨u, _, r, _, rfl, rfl, SqL.of hu3, et, ?_⟩
      have k03 := k2.trans k3
      refine ⟨_, rfl, j, 61, _, rfl, J3, by omega, by decide, by decide, fun sp H4 p0 p1 J4 k4 => ⟨_, _, rfl, ?_⟩⟩
      have k04 := k03.trans k4
      refine ⟨_, rfl, rfl, _, rfl, ite2 (fun _ => ?_) (fun _ => ?_)⟩
      · refine ⟨_, rfl, ⟨_, rfl⟩, _, rfl, rfl, by rw [S_len]; have := gt.2; omega, ?_⟩
        obtain ⟨e1, g1⟩ := upper_good gt
        rw [e1]
        exact q _ H4 g1 (J4.le (by omega)) k04
      · refine ⟨_, rfl, rfl, _, rfl, ite2 (fun _ => ?_) (fun _ => ?_)⟩
        · refine ⟨_, rfl, _, rfl, by rw [S_len, sizeLine_eq]; have := gt.2; omega, _, _, rfl, rfl, _, rfl, ite2 (fun h => ?_) (fun _ => ?_)⟩
          · have h : ((S t).length : Int) < 60 := of_decide_eq_true h
            rw [S_len] at h
            refine ⟨_, rfl, _, rfl, sp, rfl, S t, rfl, by rw [S_len, sizeLine_eq]; omega, ?_⟩
            refine ⟨_, rfl, _, rfl, j, _, l, rfl, J4, hP, by omega, fun c H5 hc J5 k5 => ?_⟩
            refine ⟨_, _, rfl, rfl, ?_, ?_⟩
            · rw [slice_to p0, S_len]; show _ + 1 ≤ _; rw [List.length_take, sizeLine_eq]; omega
            refine ⟨_, rfl, _, rfl, sp, rfl, S t, rfl, by rw [S_len, sizeLine_eq]; omega, ?_⟩
            rw [slice_to p0, slice_from p0, sg_S, S_cat]
            refine ⟨_, _, rfl, rfl, by rw [S_len, S_len, sizeLine_eq]; simp; omega, ?_⟩
            rw [S_cat]
            refine q _ H5 ⟨fun d hd => ?_, ?_⟩ (J5.le (by omega)) (k04.trans k5)
            · rcases List.mem_append.mp hd with h | h
              · rcases List.mem_append.mp h with h | h
                · exact gt.1 d (List.mem_of_mem_take h)
                · rw [List.mem_singleton.mp h]; exact hc
              · exact gt.1 d (List.mem_of_mem_drop h)
            · rw [List.length_append, List.length_append, List.length_take, List.length_drop]
              show _ + 1 + _ ≤ 60
              omega
          · exact ⟨_, rfl, q _ H4 gt (J4.le (by omega)) k04⟩
        · exact ⟨_, rfl, q _ H4 gt (J4.le (by omega)) k04⟩
end
end Pd

set_option maxHeartbeats 4000000
namespace Pd
open PySem PySem.Spec PyProof.Rows L2 SX
/-! ### the shelf and the law's state agree -/
def prs (R : List Row3) : List Row2 := R.map fun r => (r.1, r.2.2)
structure Ag (x : Sh) (y : Ls) : Prop where
  R : y.R = prs x.R
  s : y.rws = [x.g.s1, x.g.s2, x.g.s3, x.g.s4]
  ps : y.ps.map (fun p => (p.rws, p.R)) = x.st.map fun q => ([q.g.s1, q.g.s2, q.g.s3, q.g.s4], prs q.R)
theorem prs_forms {R : List Row3} : (prs R).map (·.1) = forms R := by
  unfold prs forms
  rw [List.map_map]; rfl
theorem prs_put {f : List Nat → List Nat} {R : List Row3} {n : Nat} {l : List Nat} : lputR f (prs R) l = prs (putR f R n l) := by
  unfold lputR putR
  rw [prs_forms]
  by_cases h : f l ∈ forms R
  · rw [if_pos h, if_pos h]
  · rw [if_neg h, if_neg h]
    unfold prs
    rw [List.map_append]; rfl
theorem prs_str {f : List Nat → List Nat} {R : List Row3} {l : List Nat} : lstrR f (prs R) l = prs (strR f R l) := by
  unfold lstrR strR prs
  rw [List.filter_map]; rfl
theorem Ag.st {x : Sh} {y : Ls} (h : Ag x y) : stp y 0 = x.g.s1 ∧ stp y 1 = x.g.s2 ∧ stp y 2 = x.g.s3 := by
  unfold stp
  rw [h.s]
  exact ⟨rfl, rfl, rfl⟩
theorem Ag.forms {x : Sh} {y : Ls} (h : Ag x y) : y.R.map (·.1) = forms x.R := by rw [h.R, prs_forms]
theorem Ag.len {x : Sh} {y : Ls} (h : Ag x y) : y.R.length = x.R.length := by rw [h.R]; exact List.length_map _
theorem fourB_parts {K : PySem.W.Frag} {b : Nat} {H : Hp} {l : Addr} {rs : List Addr} {rws : List (List Stp)} (h : FourB K b H l rs rws) : ∃ r1 r2 r3 r4 s1 s2 s3 s4, rs = [r1, r2, r3, r4] ∧ rws = [s1, s2, s3, s4] ∧ RowB K b H r1 s1 ∧ RowB K b H r2 s2 ∧ RowB K b H r3 s3 ∧ RowB K b H r4 s4 ∧
    s1.length ≤ 6 ∧ s2.length ≤ 6 ∧ s3.length ≤ 6 ∧ s4.length ≤ 6 := by
  obtain ⟨_, w, l4⟩ := h
  cases w with
  | nil => simp at l4
  | cons h1 b1 w => cases w with
    | nil => simp at l4
    | cons h2 b2 w => cases w with
      | nil => simp at l4
      | cons h3 b3 w => cases w with
        | nil => simp at l4
        | cons h4 b4 w => cases w with
          | nil => exact ⟨_, _, _, _, _, _, _, _, rfl, rfl, h1, h2, h3, h4, b1, b2, b3, b4⟩
          | cons h5 b5 w => simp at l4
theorem txV_map {ts : List (List Nat)} : txV ts = (ts.map S).map V.str := by
  unfold txV
  rw [List.map_map]; rfl
def spGates (K : PySem.W.Frag) (C CD : Addr) : Sp := fun vs H Q _ => ∃ p b rs rws, vs = [.ref p] ∧ FourB K b H p rs rws ∧ ∀ d g H', H d = none → DAt K C CD H' d g → rws = [g.s1, g.s2, g.s3, g.s4] → Ext H H' → Q (.ref d) H'
def spLFound (K : PySem.W.Frag) (C CD CS : Addr) (b : Nat) : Sp := fun vs H Q _ => ∃ s st u x y ts, vs = [.ref s, .ref st, .ref u] ∧ ShAt K C CD CS H s x ∧ LsAt K b H st y ∧ Ag x y ∧ H u = some (.lst (txV ts)) ∧ (∀ t ∈ ts, Good t) ∧ x.n ≤ 100000 ∧ ∀ H', Ext H H' → Q (.bl true) H'
def spLForms (K : PySem.W.Frag) (C CD CS : Addr) : Sp := fun vs H Q _ => ∃ s st x y b t, vs = [.ref s, .ref st, .int t] ∧ ShAt K C CD CS H s x ∧ LsAt K b H st y ∧ Ag x y ∧ x.R.length ≤ 1000 ∧ ∀ H', Ext H H' → Q (.bl true) H'
section
variable {P : Program} {w : World} {K : PySem.W.Frag} {mg : Str → Option Value} {base : Heap}
theorem ok_gates {f Cf CD : Addr} {fd : FuncData} (F : Fun K "_law_gates" "_law_gates" sLawGates f fd) (Z : Fol P w K mg base Cf) (Y : Drs P w K mg base CD) : FnOk P w K mg base CX0 6 f fd ["four"] (spGates K Cf CD) := by
  refine F.ok scLawGates (fun vs H Q E h => ?_) (fun cdv A outer s H vs Q E hr h => ?_)
  · obtain ⟨p, b, rs, rws, rfl, _⟩ := h
    rfl
  · obtain ⟨p, b, rs, rws, rfl, FB, q⟩ := h
    obtain ⟨r1, r2, r3, r4, s1, s2, s3, s4, rfl, rfl, R1, R2, R3, R4, b1, b2, b3, b4⟩ := fourB_parts FB
    have hp := FB.1
    replace R1 := R1.row
    replace R2 := R2.row
    replace R3 := R3.row
    replace R4 := R4.row
    obtain ⟨fi, fdi, M, FI, bI⟩ := Z.made
    obtain ⟨fj, fdj, MD, FJ, bJ⟩ := Y.made
    refine ⟨_, pss_one (ps_ret (pe_make MD FJ (hr.mono (by decide)) rfl Y.z.mgC bJ .nil pass0
          (pa_cons (pe_make M FI hr rfl Z.mgC bI .nil pass0 (pa_cons (pe_ix ix_list (pv 0) pe_int (fun _ _ => rfl)) pa_nil))
          (pa_cons (pe_make M FI hr rfl Z.mgC bI .nil pass0 (pa_cons (pe_ix ix_list (pv 0) pe_int (fun _ _ => rfl)) pa_nil))
          (pa_cons (pe_make M FI hr rfl Z.mgC bI .nil pass0 (pa_cons (pe_ix ix_list (pv 0) pe_int (fun _ _ => rfl)) pa_nil))
          (pa_cons (pe_make M FI hr rfl Z.mgC bI .nil pass0 (pa_cons (pe_ix ix_list (pv 0) pe_int (fun _ _ => rfl)) pa_nil)) pa_nil)))))), ?_⟩
    refine ⟨_, rfl, p, _, 0, .ref r1, rfl, rfl, SqL.of hp, rfl, fun x1 dx1 hx1 hdx1 ne1 => made_ask R1 b1 hx1 hdx1 ne1 fun H5 F1 k5 => ⟨rfl, ?_⟩⟩
    refine ⟨_, rfl, p, _, 1, .ref r2, rfl, rfl, SqL.of (k5 p _ hp), rfl, fun x2 dx2 hx2 hdx2 ne2 => made_ask (R2.ext k5) b2 hx2 hdx2 ne2 fun H6 F2 k6 => ⟨rfl, ?_⟩⟩
    have k56 := k5.trans k6
    refine ⟨_, rfl, p, _, 2, .ref r3, rfl, rfl, SqL.of (k56 p _ hp), rfl, fun x3 dx3 hx3 hdx3 ne3 => made_ask (R3.ext k56) b3 hx3 hdx3 ne3 fun H7 F3 k7 => ⟨rfl, ?_⟩⟩
    have k57 := k56.trans k7
    refine ⟨_, rfl, p, _, 3, .ref r4, rfl, rfl, SqL.of (k57 p _ hp), rfl, fun x4 dx4 hx4 hdx4 ne4 => made_ask (R4.ext k57) b4 hx4 hdx4 ne4 fun H8 F4 k8 => ⟨rfl, ?_⟩⟩
    refine fun x5 dx5 hx5 hdx5 ne5 => dmade_ask (((F1.ext k6).ext k7).ext k8) ((F2.ext k7).ext k8) (F3.ext k8) F4 hx5 hdx5 ne5 fun H9 D9 k9 => ⟨rfl, ?_⟩
    have k58 := k57.trans k8
    refine q x5 ⟨_, _, _, _, _, _, _, _, _, _, _, _⟩ _ ?_ D9 rfl (k58.trans k9)
    cases z : H x5 with
    | none => rfl
    | some o => rw [k58 x5 o z] at hx5; cases hx5
theorem ok_lfound {f C CD CS : Addr} {fd : FuncData} (n : Nat) (F : Fun K "_law_found" "_law_found" sLawFound f fd) (T : Nms mg) (Z : Scl K mg CS) (GF : ClN P w K mg base 2 "_law_find" (spLFind K)) (M1 : Mt P w K mg base CS 5 "find" ["self", "text"] (spSFind K C CD CS)) (M2 : InM P w K mg base CS 4 "__contains__" ["self", "x"] (spSIn K C CD CS)) : FnN n P w K mg base 6 f (spLFound K C CD CS n) := by
  refine fnN_of F scLawFound (fun kV doc pm an cdv ct us hl => match us, hl with | [_, _, _], _ => rfl) (fun vs H Q E h => ?_) (fun cdv A outer s H vs Q E hr h => ?_)
  · obtain ⟨s, st, u, x, y, ts, rfl, _⟩ := h
    rfl
  · obtain ⟨s, st, u, x, y, ts, rfl, S0, L0, ag, hu, hg, hz, q⟩ := h
    have nd := scLawFound.nd
    obtain ⟨gi, fdi, i1, i2, FI, bI⟩ := M2.ex
    refine ⟨_, PSsn.nox (pssn_cons (psn_for PassesOwn.never rfl (pi_list (pv 2)) (pg_name (i := 3) nd rfl (Or.inl rfl))
      (pssn_cons (psn_set (i := 4) nd rfl (Or.inl rfl) (pen_clN GF hr (by decide) rfl (pan (pa_cons (pv 1) (pa_cons (pv 3) pa_nil)))))
      (pssn_one (psn (ps_for PassesOwn.never rfl (pi_list (pe_lst (pa_cons (pe_mt M1 hr (by decide) Z.cl (pv 0) (pa_cons (pv 3) pa_nil)) (pa_cons (pe_cmpR (op_inOwn i1 i2 (FnOk.raw FI bI .nil) (hr.mono (by decide)) pass0) (pv 3) (pv 0) (by rfl)) pa_nil)))) (pg_name (i := 5) nd rfl (Or.inl rfl))
        (pss_one (ps_if (PW.pt (pw_or (pt_not (pt_val (pe_callB call_isi (by rfl) T.isi (by decide +kernel) (pa_cons (pv 5) (pa_cons (pe_bltn (v := .ty "bool") (by rfl) T.bool (by decide +kernel) rfl) pa_nil))))) (pw_or1 (pt_cmpR op_ne (pv 5) (pv 4) (nomark _))))) pss_never pss_nil)))))))
      (pssn_one (psn (ps_ret pe_bl)))), ?_⟩
    refine ⟨_, rfl, u, rfl, ⟨_, SqL.of hu⟩, for_list (xs := txV ts) (fun i σ H' => ∃ u3 u4 u5, σ = [some (.ref s), some (.ref st), some (.ref u), u3, u4, u5] ∧ Ext H H') ⟨_, _, _, rfl, .refl⟩ (fun i σ H' _ p => by
      obtain ⟨_, _, _, _, k⟩ := p
      exact SqL.of (k _ _ hu)) ?_ ?_⟩
    · rintro i x0 σ H2 hx ⟨u3, u4, u5, rfl, k2⟩
      unfold txV at hx
      rw [List.getElem?_map] at hx
      obtain ⟨t, ht, rfl⟩ := Option.map_eq_some_iff.mp hx
      have gt := hg t (List.mem_of_getElem? ht)
      have L2' := L0.ext k2
      refine ⟨_, rfl, _, rfl, st, y, t, rfl, L2', gt, by rw [ag.len]; have := S0.rows.len; omega, fun H3 k3 => ?_⟩
      rw [ag.forms, ag.st.2.1]
      have S3 := (S0.ext k2).ext k3
      obtain ⟨dx, e3⟩ := S3.ins
      refine ⟨_, rfl, s, dx, _, rfl, e3, rfl, _, rfl, s, x, t, rfl, S3, gt, fun H4 k4 => ?_⟩
      have S4 := S3.ext k4
      have e4 := k4 _ _ e3
      refine ⟨_, rfl, _, rfl, s, dx, _, rfl, e4, s, x.d, x.t, x.n, x.p, x.g, x.R, t, rfl, S4.ins, S4.doors, S4.tab, S4.rows.nd, gt, fun H5 k5 => ⟨_, rfl, by show 2 ≤ sizeLine; decide, fun l hl => ?_⟩⟩
      generalize hc : decide (mks x.g.s2 t ∈ forms x.R) = c
      refine ⟨l, rfl, ⟨_, SqL.of upd_same⟩, for_list (xs := [V.bl c, V.bl c]) (fun i σ H' => ∃ u5, σ = [some (.ref s), some (.ref st), some (.ref u), some (.str (S t)), some (.bl c), u5] ∧ H' = upd H5 l (.lst [V.bl c, V.bl c])) ⟨_, rfl, rfl⟩ (fun i σ H' _ p => by
        obtain ⟨_, _, rfl⟩ := p
        exact SqL.of upd_same) ?_ ?_⟩
      · rintro i' x1 σ H6 hx1 ⟨u5', rfl, rfl⟩
        have ex : x1 = V.bl c := by
          match i', hx1 with
          | 0, h => simpa using h.symm
          | 1, h => simpa using h.symm
          | i + 2, h => simp at h
        subst ex
        refine ⟨_, rfl, _, _, _, _, true, rfl, .ty "bool", .base (.bl _), kit_ty (by decide +kernel), true, rfl, ?_⟩
        refine ⟨_, rfl, _, rfl, rfl, _, rfl, ?_⟩
        have e : (!decide (V.bl c = V.bl c)) = false := by rw [decide_eq_true rfl]; rfl
        show if (!decide (V.bl c = V.bl c)) = true then _ else _
        rw [e]
        exact iteF ⟨_, rfl, rfl⟩
      · rintro σ H6 ⟨u5', rfl, rfl⟩
        exact ⟨_, _, _, rfl, (((k2.trans k3).trans k4).trans k5).new' hl⟩
    · rintro σ H2 ⟨u3, u4, u5, rfl, k2⟩
      exact q H2 k2
theorem ok_lforms {f C CD CS : Addr} {fd : FuncData} (F : Fun K "_law_forms_are" "_law_forms_are" sLawFormsAre f fd) (T : Nms mg) (mS : mg "sorted" = none) (ml : mg "list" = none) (Z : Scl K mg CS) (ML : InM P w K mg base CS 1 "__len__" ["self"] (spSLen CS)) (MF : Mt P w K mg base CS 1 "forms" ["self"] (spSForms CS)) (MT : Mt P w K mg base CS 1 "first_text" ["self", "form"] (spSFirst CS)) (GS : Cl P w K mg base 3 "_law_same" (spSame K 2)) : FnOk P w K mg base CX0 4 f fd ["shelf", "state", "turn"] (spLForms K C CD CS) := by
  refine F.ok scLawFormsAre (fun vs H Q E h => ?_) (fun cdv A outer s H vs Q E hr h => ?_)
  · obtain ⟨s, st, x, y, b, t, rfl, _⟩ := h
    rfl
  · obtain ⟨s, st, x, y, b, t, rfl, S0, L0, ag, hz, q⟩ := h
    have nd := scLawFormsAre.nd
    obtain ⟨gi, fdi, i1, i2, FI, bI⟩ := ML.ex
    refine ⟨_, PSs.nox (pss_cons (ps_set (i := 3) nd rfl (Or.inl rfl) (pe_callB cr_sortedT (by rfl) mS (by decide +kernel) (pa_cons
        (pe_lc (own := [("row", 7)]) (g := gName 7) (tt := tYes) rfl nd (pi_list (pe_ix ix_list (pv 1) pe_int (fun _ _ => rfl))) (blkOk_by (N := ["shelf", "state", "turn", "forms", "ask", "way", "told", "row"]) (sc := defScope sLawFormsAre) (by decide +kernel)) (fun _ _ _ _ _ => pg_name (i := 7) nd rfl (Or.inl rfl)) (fun _ _ _ _ _ => pts_nil) (fun _ _ _ _ _ => pe_ix (ix_tupK (K := K) rfl) (pv 7) pe_int (fun _ _ => rfl))) pa_nil)))
      (pss_cons (ps_for PassesOwn.never rfl (pi_range1 rfl T.range (pa_cons pe_int pa_nil)) (pg_name (i := 4) nd rfl (Or.inl rfl))
        (pss_cons (ps_set (i := 5) nd rfl (Or.inl rfl) (pe_op op_mod (pe_callTy call_int1 (by rfl) T.int (by decide +kernel) (pa_cons (pe_op op_add (pv 2) (pv 4)) pa_nil)) pe_int))
        (C8.pss_cut (ps_if (PW.pt (pw_and (pt_cmpR op_eq (pv 5) pe_int (nomark _)) (pw_and1 (pt_cmpR op_ne (pe_callB (call_lenOwn i1 i2 (FnOk.raw FI bI .nil) (hr.mono (by decide)) pass0) (by rfl) T.len PySem.boot_len (pa_cons (pv 0) pa_nil)) (pe_callB call_len_seq (by rfl) T.len PySem.boot_len (pa_cons (pv 3) pa_nil)) (nomark _))))) pss_never pss_nil)
        (C8.pss_cut (ps_if (pt_cmpR op_eq (pv 5) pe_int (nomark _))
          (pss_cons (ps_set (i := 6) nd rfl (Or.inl rfl) (pe_mt0 MF hr (by decide) Z.cl (pv 0)))
          (pss_cons (ps_if (PW.pt (pw_or (pt_not (pt_val (pe_callB call_isi (by rfl) T.isi (by decide +kernel) (pa_cons (pv 6) (pa_cons (pe_bltn (v := .ty "list") (by rfl) ml (by decide +kernel) rfl) pa_nil)))))
            (pw_or1 (pt_not (pt_val (pe_cl GS hr (by decide) rfl (pa_cons (pe_callTy call_tuple_of (by rfl) T.tuple (by decide +kernel) (pa_cons (pv 6) pa_nil)) (pa_cons (pe_callTy call_tuple_of (by rfl) T.tuple (by decide +kernel) (pa_cons (pv 3) pa_nil)) pa_nil)))))))) pss_never pss_nil)
          (pss_one (ps_expr (pe_bm PySem.F.plainAttrs_list PySem.F.slot_list_append PySem.F.type_list_append mt_append (pv 6) (pa_cons pe_str pa_nil)))))) pss_nil)
        (pss_one (ps_if (pt_cmpR op_eq (pv 5) pe_int (nomark _))
          (pss_one (ps_for PassesOwn.never rfl (pi_list (pe_ix ix_list (pv 1) pe_int (fun _ _ => rfl))) (pg_name (i := 7) nd rfl (Or.inl rfl))
            (pss_one (ps_if (pt_not (pt_val (pe_cl GS hr (by decide) rfl (pa_cons (pe_mt MT hr (by decide) Z.cl (pv 0) (pa_cons (pe_ix ix_tup (pv 7) pe_int (fun _ _ => rfl)) pa_nil)) (pa_cons (pe_ix ix_tup (pv 7) pe_int (fun _ _ => rfl)) pa_nil))))) pss_never pss_nil)))) pss_nil))))))
      (pss_one (ps_ret pe_bl)))), ?_⟩
    obtain ⟨as, erl, prl⟩ := id L0.rl
    have lR : y.R.length ≤ 1000 := by rw [ag.len]; have := S0.rows.len; omega
    refine ⟨_, rfl, st, _, 1, _, rfl, rfl, SqL.of L0.s0, rfl, y.rl, rfl, ⟨_, SqL.of erl⟩, fun D hD => lc_heads erl prl hD (by omega) (fun _ => rfl) (fun a r H3 Q h q => ⟨_, rfl, a, _, 0, _, rfl, rfl, SqT.of h, rfl, q⟩) fun H1 k1 hD1 => ?_⟩
    rw [txV_map] at hD1
    refine ⟨D, _, rfl, SqL.of hD1, fun ys p hys hsr hp => ?_⟩
    obtain ⟨H2, z2⟩ : ∃ H', H' = upd H1 p (.lst (ys.map V.str)) := ⟨_, rfl⟩
    rw [← z2]
    have k2 : Ext H1 H2 := by rw [z2]; exact Ext.refl.new hp
    have hp2 : H2 p = some (.lst (ys.map V.str)) := by rw [z2, upd_same]
    rw [ag.forms] at hys
    have ly : ys.length = x.R.length := by rw [hys.length_eq, List.length_map]; exact List.length_map _
    have lR3 : x.R.length ≤ 1000 := by have := S0.rows.len; omega
    have Hp : H p = none := by
      cases e : H p with
      | none => rfl
      | some o => rw [k1 _ _ e] at hp; cases hp
    refine ⟨3, rfl, by decide, by decide, for_range (lo := 0) (n := 3) (fun i σ H' => ∃ u4 u5 u6 u7, σ = [some (.ref s), some (.ref st), some (.int t), some (.ref p), u4, u5, u6, u7] ∧ Ext H H' ∧ H' p = some (.lst (ys.map V.str))) ⟨_, _, _, _, rfl, k1.trans k2, hp2⟩ ?_ ?_⟩
    · rintro i σ H3 hi ⟨u4, u5, u6, u7, rfl, k3, hp3⟩
      refine ⟨_, rfl, _, rfl, _, _, rfl, rfl, .inl ⟨_, rfl, _, _, rfl, rfl, (show (0:Int) < 3 by decide), ?_⟩⟩
      refine ⟨fun σ' H' => ∃ u6 u7, σ' = [some (.ref s), some (.ref st), some (.int t), some (.ref p), some (.int (0 + (i : Nat))), some (.int ((t + (0 + (i : Int))) % 3)), u6, u7] ∧ Ext H H' ∧ H' p = some (.lst (ys.map V.str)), ?_, ?_⟩
      · refine ⟨_, rfl, rfl, _, rfl, ite2 (fun _ => ?_) (fun _ => ⟨_, _, rfl, k3, hp3⟩)⟩
        have S3 := S0.ext k3
        obtain ⟨dx, e3⟩ := S3.ins
        refine ⟨_, rfl, s, dx, _, rfl, e3, s, x.d, x.t, x.n, x.p, x.R, rfl, S3.ins, S3.tab, _, rfl, by omega, _, rfl, p, _, rfl, .inl (SqL.of hp3), rfl, _, rfl, ?_⟩
        rw [List.length_map, ly]
        have e : (!decide (V.int (x.R.length : Nat) = V.int (x.R.length : Nat))) = false := by rw [decide_eq_true rfl]; rfl
        show if (!decide (V.int (x.R.length : Nat) = V.int (x.R.length : Nat))) = true then _ else _
        rw [e]
        exact iteF ⟨_, _, rfl, k3, hp3⟩
      rintro σ4 H4 ⟨v6, v7, rfl, k4, hp4⟩
      refine ⟨fun σ' H' => ∃ u6 u7, σ' = [some (.ref s), some (.ref st), some (.int t), some (.ref p), some (.int (0 + (i : Nat))), some (.int ((t + (0 + (i : Int))) % 3)), u6, u7] ∧ Ext H H' ∧ H' p = some (.lst (ys.map V.str)), ?_, ?_⟩
      · refine ⟨_, rfl, rfl, _, rfl, ite2 (fun _ => ?_) (fun _ => ⟨_, _, rfl, k4, hp4⟩)⟩
        have S4 := S0.ext k4
        obtain ⟨dx, e4⟩ := S4.ins
        refine ⟨_, rfl, s, dx, _, rfl, e4, rfl, s, x.d, x.t, x.n, x.p, x.R, rfl, S4.ins, S4.tab, by omega, fun zs a hzs hsz ha => ?_⟩
        have eyz : zs = ys := SrtO.srtT_uniq hsz hsr (hzs.trans hys.symm)
        subst eyz
        have na : p ≠ a := ne_of_none hp4 ha
        obtain ⟨H5, z5⟩ : ∃ H', H' = upd H4 a (.lst (zs.map V.str)) := ⟨_, rfl⟩
        rw [← z5]
        have k5 : Ext H4 H5 := by rw [z5]; exact Ext.refl.new ha
        have ha5 : H5 a = some (.lst (zs.map V.str)) := by rw [z5, upd_same]
        refine ⟨_, rfl, _, _, _, _, true, rfl, .ty "list", .base (.lst ha5), kit_ty (by decide +kernel), true, rfl, ?_⟩
        refine ⟨_, rfl, a, _, rfl, .inl ⟨SqL.of ha5, fun t1 ht1 => ?_⟩⟩
        obtain ⟨H6, z6⟩ : ∃ H', H' = upd H5 t1 (.tup (zs.map V.str)) := ⟨_, rfl⟩
        rw [← z6]
        have k6 : Ext H5 H6 := by rw [z6]; exact Ext.refl.new ht1
        have ht16 : H6 t1 = some (.tup (zs.map V.str)) := by rw [z6, upd_same]
        refine ⟨_, rfl, p, _, rfl, .inl ⟨SqL.of (k6 _ _ (k5 _ _ hp4)), fun t2 ht2 => ?_⟩⟩
        obtain ⟨H7, z7⟩ : ∃ H', H' = upd H6 t2 (.tup (zs.map V.str)) := ⟨_, rfl⟩
        rw [← z7]
        have k7 : Ext H6 H7 := by rw [z7]; exact Ext.refl.new ht2
        have ht27 : H7 t2 = some (.tup (zs.map V.str)) := by rw [z7, upd_same]
        refine ⟨_, _, rfl, .tup (SqT.of (k7 _ _ ht16)) (SqT.of ht27) rfl (by rw [List.length_map]; omega) (fun i x y e1 e2 => by
          rw [e1] at e2; cases e2
          rw [List.getElem?_map] at e1
          obtain ⟨w, _, rfl⟩ := Option.map_eq_some_iff.mp e1
          exact .str _), fun H8 k8 => ⟨_, rfl, iteF ?_⟩⟩
        have k48 := ((k5.trans k6).trans k7).trans k8
        have ha8 := ((k6.trans k7).trans k8) _ _ ha5
        refine ⟨_, rfl, .inl ⟨rfl, _, SqL.of ha8⟩, a, _, _, rfl, rfl, ha8, by rw [List.length_map, sizeLine_eq]; omega, _, _, rfl, fun b o h => ?_, ?_⟩
        · rw [upd_ne (ne_of_none (k4 _ _ h) ha)]; exact k48 _ _ (k4 _ _ h)
        · rw [upd_ne na]; exact k48 _ _ hp4
      rintro σ5 H5 ⟨w6, w7, rfl, k5, hp5⟩
      refine ⟨_, rfl, rfl, _, rfl, ite2 (fun _ => ?_) (fun _ => ⟨_, _, _, _, rfl, k5, hp5⟩)⟩
      have erl5 := k5 _ _ erl
      refine ⟨_, rfl, st, _, 1, _, rfl, rfl, SqL.of (k5 _ _ L0.s0), rfl, y.rl, rfl, ⟨_, SqL.of erl5⟩, for_list (xs := as.map V.ref) (fun k σ H' => ∃ u7, σ = [some (.ref s), some (.ref st), some (.int t), some (.ref p), some (.int (0 + (i : Nat))), some (.int ((t + (0 + (i : Int))) % 3)), w6, u7] ∧ Ext H5 H') ⟨_, rfl, .refl⟩ (fun k σ H' _ p => by
        obtain ⟨_, _, k⟩ := p
        exact SqL.of (k _ _ erl5)) ?_ ?_⟩
      · rintro k x0 σ H6 hx ⟨u7', rfl, k6⟩
        rw [List.getElem?_map] at hx
        obtain ⟨a, ha, rfl⟩ := Option.map_eq_some_iff.mp hx
        obtain ⟨r, hr, hra⟩ := prl.get ha
        have k06 := k5.trans k6
        have hra6 := k06 _ _ hra
        rw [ag.R] at hr
        unfold prs at hr
        rw [List.getElem?_map] at hr
        obtain ⟨r3, hr3, rfl⟩ := Option.map_eq_some_iff.mp hr
        have S6 := S0.ext k06
        obtain ⟨dx, e6⟩ := S6.ins
        refine ⟨_, rfl, s, dx, _, rfl, e6, rfl, _, rfl, a, _, 0, _, rfl, rfl, SqT.of hra6, rfl, s, x.d, x.t, x.n, x.p, x.R, r3, rfl, S6.ins, S6.tab, S6.rows.nd, List.mem_of_getElem? hr3, ?_⟩
        exact ⟨_, rfl, a, _, 1, _, rfl, rfl, SqT.of hra6, rfl, _, _, rfl, .str _, fun H7 k7 => ⟨_, rfl, iteF ⟨_, rfl, k6.trans k7⟩⟩⟩
      · rintro σ H6 ⟨u7', rfl, k6⟩
        exact ⟨_, _, _, _, rfl, k5.trans k6, k6 _ _ hp5⟩
    · rintro σ H3 ⟨u4, u5, u6, u7, rfl, k3, hp3⟩
      exact q H3 k3
end
end Pd

set_option maxHeartbeats 4000000
namespace Pd
open PySem PySem.Spec PyProof.Rows L2 SX
/-! ### shelves and states, a pair each -/
structure Pr where
  (s st : Addr) (x : Sh) (y : Ls)
def fp (p : Pr) : List Addr := own p.s p.x ++ lown p.st p.y
structure PrAt (K : PySem.W.Frag) (C CD CS : Addr) (b : Nat) (H : Hp) (p : Pr) : Prop where
  S : ShAt K C CD CS H p.s p.x
  L : LsAt K b H p.st p.y
  ag : Ag p.x p.y
  dj : ∀ a ∈ own p.s p.x, a ∉ lown p.st p.y
section
variable {K : PySem.W.Frag} {C CD CS : Addr} {b : Nat} {H H' : Hp} {p : Pr}
theorem PrAt.kpL {js : List Addr} (h : PrAt K C CD CS b H p) (k : KpL js H H') (c : ChgM H js) (n : ∀ a ∈ fp p, a ∉ js) : PrAt K C CD CS b H' p :=
  ⟨h.S.kpL k c fun a z => n a (List.mem_append_left _ z), h.L.kpL k c fun a z => n a (List.mem_append_right _ z), h.ag, h.dj⟩
theorem PrAt.ext (h : PrAt K C CD CS b H p) (k : Ext H H') : PrAt K C CD CS b H' p := ⟨h.S.ext k, h.L.ext k, h.ag, h.dj⟩
theorem PrAt.mono {b' : Nat} (h : PrAt K C CD CS b H p) (l : b ≤ b') : PrAt K C CD CS b' H p := ⟨h.S, h.L.mono l, h.ag, h.dj⟩
theorem PrAt.chg (h : PrAt K C CD CS b H p) : ChgM H (fp p) := fun a z => by
  rcases List.mem_append.mp z with z | z
  · exact h.S.chg a z
  · exact h.L.chg a z
theorem PrAt.dom (h : PrAt K C CD CS b H p) {a : Addr} (z : a ∈ fp p) : H a ≠ none := by
  obtain ⟨o, e, _⟩ := h.chg a z
  rw [e]; exact fun z => nomatch z
end
theorem chg_lst {H : Hp} {a : Addr} {xs : List V} (h : H a = some (.lst xs)) : ChgM H [a] := fun b hb => by rw [List.mem_singleton.mp hb]; exact ⟨_, h, .inl ⟨_, rfl⟩⟩
theorem JarAt.chg {H : Hp} {j : Addr} {n : Nat} (h : JarAt H j n) : ChgM H [j] := by
  obtain ⟨xs, e⟩ := h.lst
  exact chg_lst e
/-- a new shelf and its state -/
def pr0 (s st d t p four rl pl : Addr) (g : Dg) (rs : List Addr) (rws : List (List Stp)) : Pr := ⟨s, st, ⟨d, g, t, 0, p, [], []⟩, ⟨four, rs, rws, rl, [], pl, []⟩⟩
/-- shelves and states as a list of pairs -/
structure PrsAt (K : PySem.W.Frag) (C CD CS : Addr) (b : Nat) (H : Hp) (hs ss : Addr) (ps : List Pr) : Prop where
  e1 : H hs = some (.lst (ps.map fun p => V.ref p.s))
  e2 : H ss = some (.lst (ps.map fun p => V.ref p.st))
  at_ : ∀ p ∈ ps, PrAt K C CD CS b H p
  dj : ps.Pairwise fun p q => ∀ a ∈ fp p, a ∉ fp q
  out : ∀ p ∈ ps, hs ∉ fp p ∧ ss ∉ fp p
  ne : hs ≠ ss
def spStart (K : PySem.W.Frag) (C CD CS : Addr) : SpU := fun vs H Q => ∃ (a : Addr) (ns : List Int) (m : Int), vs = [.ref a, .int m] ∧ SqL K H a (ns.map V.int) ∧ ns.length ≤ 63 ∧ 0 ≤ m ∧ m ≤ 3 ∧
  ∀ b j l hs ss t ps H', H' t = some (.tup [.ref j, .str (S l), .ref hs, .ref ss]) → PoolOk l → JarAt H' j 10000 → PrsAt K C CD CS b H' hs ss ps → ps.length = m.toNat → (∀ p ∈ ps, (∃ s st d t q four rl pl g rs rws, p = pr0 s st d t q four rl pl g rs rws) ∧ (∀ a ∈ fp p, H a = none ∧ a ≠ j)) → Ext H H' → j ≠ hs → j ≠ ss → H j = none → H hs = none → H ss = none → Q b (.ref t) H'
section
variable {P : Program} {w : World} {K : PySem.W.Frag} {mg : Str → Option Value} {base : Heap}
theorem ok_start {f C CD CS : Addr} {fd : FuncData} (F : Fun K "_law_start" "_law_start" sLawStart f fd) (T : Nms mg) (Z : Scl K mg CS) (G1 : Cl P w K mg base 1 "_law_well" (spJar K)) (G2 : Cl P w K mg base 2 "_law_pool" spPool) (G3 : ClB P w K mg base 5 "_law_doors" (spUdoors K)) (G4 : Cl P w K mg base 6 "_law_gates" (spGates K C CD)) (MK : ∃ (g : Addr) (fd : FuncData), Mk K CS g ∧ FnOk P w K mg base CX0 1 g fd ["self", "doors"] (spSInit CS) ∧ Binds K fd ["self", "doors"] []) : FnU P w K mg base 7 f (spStart K C CD CS) := by
  refine fnU_ofB F scLawStart (fun kV doc pm an cdv ct us hl => match us, hl with | [_, _], _ => rfl) (fun vs H Q h => ?_) (fun cdv A outer s H vs Q E hr h => ?_)
  · obtain ⟨a, ns, m, rfl, _⟩ := h
    rfl
  · obtain ⟨a, ns, m, rfl, hS, hl, hm0, hm3, q⟩ := h
    have nd := scLawStart.nd
    obtain ⟨gi, fdi, M, FI, bI⟩ := MK
    refine ⟨_, PSsB.nox (pssb_cons (psb0 (ps_set (i := 2) nd rfl (Or.inl rfl) (pe_cl G1 hr (by decide) rfl (pa_cons (pv 0) (pa_cons pe_int pa_nil)))))
      (pssb_cons (psb0 (ps_par3 (i := 3) (j := 4) (l := 5) (by rfl) nd rfl rfl rfl (by decide) (by decide) (by decide) rfl rfl rfl (pa_cons (pe_cl G2 hr (by decide) rfl (pa_cons (pv 2) pa_nil)) (pa_cons (pe_lst pa_nil) (pa_cons (pe_lst pa_nil) pa_nil))) (by rfl)))
      (pssb_cons (psb_for PassesOwn.never rfl (pi_range1 rfl T.range (pa_cons (pv 1) pa_nil)) (pg_name (i := 6) nd rfl (Or.inl rfl))
        (pssb_cons (psb_set (i := 7) nd rfl (Or.inl rfl) (peb_clB G3 hr (by decide) rfl (pa_cons (pv 2) (pa_cons (pv 3) pa_nil))))
        (pssb0 (C8.pss_cut (ps_expr (pe_bm PySem.F.plainAttrs_list PySem.F.slot_list_append PySem.F.type_list_append mt_append (pv 4) (pa_cons (pe_make M FI (hr.mono (by decide)) rfl Z.mgC bI .nil pass0 (pa_cons (pe_cl G4 hr (by decide) rfl (pa_cons (pv 7) pa_nil)) pa_nil)) pa_nil)))
        (pss_one (ps_expr (pe_bm PySem.F.plainAttrs_list PySem.F.slot_list_append PySem.F.type_list_append mt_append (pv 5) (pa_cons (pe_lst (pa_cons (pv 7) (pa_cons (pe_lst pa_nil) (pa_cons (pe_lst pa_nil) pa_nil)))) pa_nil))))))))
      (pssb0 (pss_one (ps_ret (pe_tup (pa_cons (pv 2) (pa_cons (pv 3) (pa_cons (pv 4) (pa_cons (pv 5) pa_nil)))))))))))
      , ?_⟩
    refine ⟨_, rfl, a, ns, 0, rfl, hS, hl, by decide, by decide, fun j H1 nj J1 k1 => ?_⟩
    replace k1 : Ext H H1 := k1
    obtain ⟨xs1, hx1⟩ := J1.lst
    refine ⟨_, rfl, j, 0, rfl, J1, by decide, fun l H2 hP J2 k2 => ⟨by show 0 ≤ sizeLine; decide, fun hs hhs => ⟨by show 0 ≤ sizeLine; decide, fun ss hss => ⟨_, _, _, rfl, ?_⟩⟩⟩⟩
    have k02 : Ext H H2 := ext_kp k1 k2 nj
    have nss : ss ≠ hs := by rintro rfl; rw [upd_same] at hss; cases hss
    have hss2 : H2 ss = none := by rw [upd_ne nss] at hss; exact hss
    have Hn : ∀ {c}, H2 c = none → H c = none := fun {c} h => by
      cases e : H c with
      | none => rfl
      | some o => rw [k02 _ _ e] at h; cases h
    obtain ⟨xs2, hx2⟩ := J2.lst
    have njh : j ≠ hs := ne_of_none hx2 hhs
    have njs : j ≠ ss := ne_of_none hx2 hss2
    refine ⟨_, rfl, m, rfl, by omega, by omega, ?_⟩
    refine forB_it (walk_range (lo := 0) (n := m.toNat)) (fun i b σ H' => ∃ u6 u7 ps, σ = [some (.ref a), some (.int m), some (.ref j), some (.str (S l)), some (.ref hs), some (.ref ss), u6, u7] ∧ ps.length = i ∧ JarAt H' j (0 + 6 + 3000 * i) ∧ PrsAt K C CD CS b H' hs ss ps ∧
      (∀ p ∈ ps, (∃ s st d t q four rl pl g rs rws, p = pr0 s st d t q four rl pl g rs rws) ∧ (∀ a ∈ fp p, H a = none ∧ a ≠ j)) ∧ Ext H H') ⟨none, none, [], rfl, rfl, ?_, ⟨?_, ?_, (fun _ h => nomatch h), List.Pairwise.nil, (fun _ h => nomatch h), Ne.symm nss⟩, (fun _ h => nomatch h), ?_⟩ (fun _ _ _ _ _ _ => trivial) ?_ ?_
    · exact (J2.new hhs).new hss
    · rw [upd_ne (Ne.symm nss), upd_same]; rfl
    · rw [upd_same]; rfl
    · exact (k02.new' hhs).new' hss
    · rintro i x b σ H3' H3 hi ⟨u6, u7, ps, rfl, hlen, J3, P3, hn, k3⟩ ⟨rfl, rfl⟩
      obtain ⟨xs3, hx3⟩ := J3.lst
      have im : i < 3 := by omega
      refine ⟨_, rfl, _, rfl, j, _, l, rfl, J3, hP, by omega, fun b' four rs rws H4 nf F4 J4 k4 => ?_⟩
      have lm : b ≤ max b b' := Nat.le_max_left _ _
      have kk4 : KpL [j] H3 H4 := .of (by simp) k4
      have c3 : ChgM H3 [j] := J3.chg
      have nj1 : ∀ {c : Addr}, c ≠ j → c ∉ [j] := fun h => by simpa using h
      have hs4 : H4 hs = some (.lst (ps.map fun p => V.ref p.s)) := kk4 _ _ (nj1 (Ne.symm njh)) P3.e1
      have ss4 : H4 ss = some (.lst (ps.map fun p => V.ref p.st)) := kk4 _ _ (nj1 (Ne.symm njs)) P3.e2
      have A4 : ∀ p ∈ ps, PrAt K C CD CS (max b b') H4 p := fun p hp => ((P3.at_ p hp).kpL kk4 c3 fun a z => nj1 ((hn p hp).2 a z).2).mono lm
      have k04 : Ext H H4 := fun c o e => kk4 _ _ (nj1 (by rintro rfl; rw [k1 _ _ e] at hx1; rw [e] at nj; cases nj)) (k3 _ _ e)
      have F4' := F4.mono (Nat.le_max_right b b')
      obtain ⟨xs4, hx4⟩ := J4.lst
      refine ⟨fun σ' H' => ∃ s d t q g, σ' = [some (.ref a), some (.int m), some (.ref j), some (.str (S l)), some (.ref hs), some (.ref ss), some (.int (0 + (i : Nat))), some (.ref four)] ∧ DAt K C CD H' d g ∧ rws = [g.s1, g.s2, g.s3, g.s4] ∧ InsAt CS H' s d t 0 q ∧ H' t = some (.dK []) ∧ H' q = some (.lst []) ∧ H4 s = none ∧ H4 t = none ∧ H4 q = none ∧ KpL [hs] H4 H' ∧ H' hs = some (.lst ((ps.map fun p => V.ref p.s) ++ [.ref s])), ?_, ?_⟩
      · refine ⟨_, rfl, .inl ⟨rfl, _, SqL.of hs4⟩, _, rfl, four, _, rs, rws, rfl, F4', fun d g H5 hd D5 er k5 => ?_⟩
        refine fun s dx hs5 hdx nsd => ?_
        have e0 : ∀ b o, H5 b = some o → (upd (upd H5 dx (.own s)) s (.ins CS dx [])) b = some o := fun b o e => by rw [upd_ne (ne_of_none e hs5), upd_ne (ne_of_none e hdx)]; exact e
        have z5 : ∀ {c}, (upd (upd H5 dx (.own s)) s (.ins CS dx [])) c = none → H5 c = none := fun {c} h => by
          cases e : H5 c with
          | none => rfl
          | some o => rw [e0 _ _ e] at h; cases h
        have z4 : ∀ {c}, H5 c = none → H4 c = none := fun {c} h => by
          cases e : H4 c with
          | none => rfl
          | some o => rw [k5 _ _ e] at h; cases h
        refine ⟨s, dx, d, rfl, upd_same, fun t q H6 ht hq nqt nts nqs e6s e6t e6q k6 => ⟨rfl, ?_⟩⟩
        have k56 : Ext H5 H6 := fun b o e => k6 b o (ne_of_none e hs5) (e0 _ _ e)
        have k46 := k5.trans k56
        have hs6 := k46 _ _ hs4
        refine ⟨hs, _, _, rfl, rfl, hs6, by rw [List.length_map, hlen, sizeLine_eq]; omega, ?_⟩
        have ns : s ≠ hs := by rintro rfl; rw [k5 _ _ hs4] at hs5; cases hs5
        have nt : t ≠ hs := fun e => by have z := z5 ht; rw [e, k5 _ _ hs4] at z; cases z
        have nq : q ≠ hs := fun e => by have z := z5 hq; rw [e, k5 _ _ hs4] at z; cases z
        have c6 := chg_lst hs6
        have kk7 : KpL [hs] H6 (upd H6 hs (.lst ((ps.map fun p => V.ref p.s) ++ [.ref s]))) := .upd (by simp)
        exact ⟨s, d, t, q, g, rfl, (D5.ext k56).kpL kk7 c6, er, ⟨dx, by rw [upd_ne ns]; exact e6s⟩, by rw [upd_ne nt]; exact e6t, by rw [upd_ne nq]; exact e6q, z4 hs5, z4 (z5 ht), z4 (z5 hq), (KpL.ext k46).trans kk7, upd_same⟩
      rintro σ5 H5 ⟨s, d, t, q, g, rfl, D5, er, I5, ht5, hq5, hs0, ht0, hq0, k5, hhs5⟩
      have nh1 : ∀ {c : Addr}, c ≠ hs → c ∉ [hs] := fun h => by simpa using h
      have c4 := chg_lst hs4
      have ss5 := k5 _ _ (nh1 (Ne.symm P3.ne)) ss4
      have A5 : ∀ p ∈ ps, PrAt K C CD CS (max b b') H5 p := fun p hp => (A4 p hp).kpL k5 c4 fun a z => nh1 fun e => (P3.out p hp).1 (e ▸ z)
      have F5 := F4'.kpL k5 c4 (nh1 fun e => by rw [← e] at hs4; rw [F4'.1] at hs4; have := k4 hs _ (Ne.symm njh) P3.e1; rw [← e] at this; exact absurd nf (by rw [← e] at P3; rw [P3.e1]; simp))
      refine ⟨_, rfl, .inl ⟨rfl, _, SqL.of ss5⟩, _, rfl, by show 0 ≤ sizeLine; decide, fun rl hrl => ⟨by show 0 ≤ sizeLine; decide, fun pl hpl => ⟨by show 3 ≤ sizeLine; decide, fun st hst => ?_⟩⟩⟩
      obtain ⟨H6, z6⟩ : ∃ H', H' = upd H5 rl (.lst []) := ⟨_, rfl⟩
      rw [← z6] at hpl hst ⊢
      have k6 : Ext H5 H6 := by rw [z6]; exact Ext.refl.new hrl
      obtain ⟨H7, z7⟩ : ∃ H', H' = upd H6 pl (.lst []) := ⟨_, rfl⟩
      rw [← z7] at hst ⊢
      have k7 : Ext H6 H7 := by rw [z7]; exact Ext.refl.new hpl
      obtain ⟨H8, z8⟩ : ∃ H', H' = upd H7 st (.lst [.ref four, .ref rl, .ref pl]) := ⟨_, rfl⟩
      rw [← z8]
      have k8 : Ext H7 H8 := by rw [z8]; exact Ext.refl.new hst
      have k58 := (k6.trans k7).trans k8
      have ss8 := k58 _ _ ss5
      refine ⟨ss, _, _, rfl, rfl, ss8, by rw [List.length_map, hlen, sizeLine_eq]; omega, ?_⟩
      obtain ⟨H9, z9⟩ : ∃ H', H' = upd H8 ss (.lst ((ps.map fun p => V.ref p.st) ++ [.ref st])) := ⟨_, rfl⟩
      rw [← z9]
      have k9 : KpL [ss] H8 H9 := by rw [z9]; exact .upd (by simp)
      have c8 := chg_lst ss8
      have ns1 : ∀ {c : Addr}, c ≠ ss → c ∉ [ss] := fun h => by simpa using h
      -- what is new was not there
      have n5 : ∀ {c}, H5 c = none → H4 c = none := fun {c} h => k5.ne h (nh1 fun e => by rw [e, hhs5] at h; cases h)
      have n6 : ∀ {c}, H6 c = none → H5 c = none := fun {c} h => by
        cases e : H5 c with
        | none => rfl
        | some o => rw [k6 _ _ e] at h; cases h
      have n7 : ∀ {c}, H7 c = none → H6 c = none := fun {c} h => by
        cases e : H6 c with
        | none => rfl
        | some o => rw [k7 _ _ e] at h; cases h
      have nH : ∀ {c}, H4 c = none → H c = none ∧ c ≠ j := fun {c} h => ⟨(by
        cases e : H c with
        | none => rfl
        | some o => rw [k04 _ _ e] at h; cases h), (by rintro rfl; rw [hx4] at h; cases h)⟩
      have r4 := n5 hrl
      have p4 := n5 (n6 hpl)
      have st4 := n5 (n6 (n7 hst))
      have n4s : ∀ {c}, H4 c = none → c ≠ hs ∧ c ≠ ss := fun {c} h => ⟨(by rintro rfl; rw [hs4] at h; cases h), (by rintro rfl; rw [ss4] at h; cases h)⟩
      -- the new ones are unlike one another
      obtain ⟨dx, es5⟩ := I5
      have new5 : ∀ {c o}, H5 c = some o → c ≠ rl ∧ c ≠ pl ∧ c ≠ st := fun {c o} h => ⟨ne_of_none h hrl, ne_of_none (k6 _ _ h) hpl, ne_of_none (k7 _ _ (k6 _ _ h)) hst⟩
      have erl6 : H6 rl = some (.lst []) := by rw [z6, upd_same]
      have epl7 : H7 pl = some (.lst []) := by rw [z7, upd_same]
      have rlpl : rl ≠ pl := ne_of_none erl6 hpl
      have rlst : rl ≠ st := ne_of_none (k7 _ _ erl6) hst
      have plst : pl ≠ st := ne_of_none epl7 hst
      have f5 := new5 F5.1
      have own0 : own s ⟨d, g, t, 0, q, [], []⟩ = [s, t, q] := rfl
      have lown0 : lown st ⟨four, rs, rws, rl, [], pl, []⟩ = [st, pl, four, rl] := rfl
      have S5 : ShAt K C CD CS H5 s ⟨d, g, t, 0, q, [], []⟩ := ⟨⟨dx, es5⟩, D5, ⟨[], [], ht5, .nil, .refl _⟩, ⟨List.nodup_nil, List.Pairwise.nil, (fun _ h => nomatch h), fun _ h => nomatch h⟩, hq5, .nil, fun _ h => nomatch h⟩
      have L8 : LsAt K (max b b') H8 st ⟨four, rs, rws, rl, [], pl, []⟩ := ⟨by rw [z8, upd_same], F5.ext k58, ⟨[], (k7.trans k8) _ _ erl6, .nil⟩, k8 _ _ epl7, (fun _ h => nomatch h), ⟨Ne.symm plst, fun c hc => by
        have hc : c = four ∨ c = rl := by simpa [lro] using hc
        rcases hc with rfl | rfl
        · exact ⟨f5.2.2, f5.2.1⟩
        · exact ⟨rlst, rlpl⟩⟩, fun _ h => nomatch h⟩
      have dj0 : ∀ c ∈ own s ⟨d, g, t, 0, q, [], []⟩, c ∉ lown st ⟨four, rs, rws, rl, [], pl, []⟩ := fun c hc z => by
        rw [own0] at hc
        rw [lown0] at z
        simp only [List.mem_cons, List.mem_nil_iff, or_false] at hc z
        have nf4 : H4 four = some _ := F4'.1
        rcases hc with rfl | rfl | rfl
        · have w := new5 es5
          rcases z with z | z | z | z
          · exact w.2.2 z
          · exact w.2.1 z
          · rw [z, nf4] at hs0; cases hs0
          · exact w.1 z
        · have w := new5 ht5
          rcases z with z | z | z | z
          · exact w.2.2 z
          · exact w.2.1 z
          · rw [z, nf4] at ht0; cases ht0
          · exact w.1 z
        · have w := new5 hq5
          rcases z with z | z | z | z
          · exact w.2.2 z
          · exact w.2.1 z
          · rw [z, nf4] at hq0; cases hq0
          · exact w.1 z
      have fp0 : ∀ c ∈ fp (pr0 s st d t q four rl pl g rs rws), H4 c = none ∨ c = four := fun c hc => by
        rcases List.mem_append.mp hc with hc | hc
        · have hc : c ∈ [s, t, q] := hc
          simp only [List.mem_cons, List.mem_nil_iff, or_false] at hc
          rcases hc with rfl | rfl | rfl
          · exact .inl hs0
          · exact .inl ht0
          · exact .inl hq0
        · have hc : c ∈ [st, pl, four, rl] := hc
          simp only [List.mem_cons, List.mem_nil_iff, or_false] at hc
          rcases hc with rfl | rfl | rfl | rfl
          · exact .inl st4
          · exact .inl p4
          · exact .inr rfl
          · exact .inl r4
      have nf3 : ∀ {c o}, H3 c = some o → c ≠ four := fun h => by rintro rfl; rw [h] at nf; cases nf
      have nH3 : ∀ {c}, H3 c = none → H c = none ∧ c ≠ j ∧ c ≠ hs ∧ c ≠ ss := fun {c} h => ⟨(by
        cases e : H c with
        | none => rfl
        | some o => rw [k3 _ _ e] at h; cases h), (by rintro rfl; rw [hx3] at h; cases h), (by rintro rfl; rw [P3.e1] at h; cases h), (by rintro rfl; rw [P3.e2] at h; cases h)⟩
      have fpn : ∀ c ∈ fp (pr0 s st d t q four rl pl g rs rws), H c = none ∧ c ≠ j ∧ c ≠ hs ∧ c ≠ ss := fun c hc => by
        rcases fp0 c hc with h | rfl
        · exact ⟨(nH h).1, (nH h).2, n4s h⟩
        · exact nH3 nf
      have PN : PrAt K C CD CS (max b b') H9 (pr0 s st d t q four rl pl g rs rws) :=
        (show PrAt K C CD CS (max b b') H8 (pr0 s st d t q four rl pl g rs rws) from ⟨S5.ext k58, L8, ⟨rfl, er, rfl⟩, dj0⟩).kpL k9 c8 fun c hc => ns1 (fpn c hc).2.2.2
      have A9 : ∀ p ∈ ps, PrAt K C CD CS (max b b') H9 p := fun p hp => ((A5 p hp).ext k58).kpL k9 c8 fun c hc => ns1 fun e => (P3.out p hp).2 (e ▸ hc)
      have J5 := J4.kpL k5 (nh1 njh)
      have J9 := (J5.ext k58).kpL k9 (ns1 njs)
      refine ⟨_, _, ps ++ [pr0 s st d t q four rl pl g rs rws], rfl, by rw [List.length_append, hlen]; rfl, J9.le (by omega), ⟨?_, ?_, fun p hp => ?_, ?_, fun p hp => ?_, P3.ne⟩, fun p hp => ?_, ?_⟩
      · rw [k9 _ _ (ns1 P3.ne) (k58 _ _ hhs5), List.map_append]; rfl
      · rw [z9, upd_same, List.map_append]; rfl
      · rcases List.mem_append.mp hp with hp | hp
        · exact A9 p hp
        · rw [List.mem_singleton.mp hp]; exact PN
      · rw [List.pairwise_append]
        refine ⟨P3.dj, List.pairwise_singleton _ _, fun p hp p' hp' c hc hc' => ?_⟩
        rw [List.mem_singleton.mp hp'] at hc'
        rcases fp0 c hc' with h | h
        · exact (A4 p hp).dom hc h
        · obtain ⟨o, e, _⟩ := (P3.at_ p hp).chg c hc
          exact nf3 e h
      · rcases List.mem_append.mp hp with hp | hp
        · exact P3.out p hp
        · rw [List.mem_singleton.mp hp]
          exact ⟨fun z => (fpn _ z).2.2.1 rfl, fun z => (fpn _ z).2.2.2 rfl⟩
      · rcases List.mem_append.mp hp with hp | hp
        · exact hn p hp
        · rw [List.mem_singleton.mp hp]
          exact ⟨⟨_, _, _, _, _, _, _, _, _, _, _, rfl⟩, fun c hc => ⟨(fpn c hc).1, (fpn c hc).2.1⟩⟩
      · intro c o e
        have e4 := k04 _ _ e
        have nhs : c ≠ hs := by rintro rfl; rw [Hn hhs] at e; cases e
        have nss' : c ≠ ss := by rintro rfl; rw [Hn hss2] at e; cases e
        exact k9 _ _ (ns1 nss') (k58 _ _ (k5 _ _ (nh1 nhs) e4))
    · rintro b σ H3 ⟨u6, u7, ps, rfl, hlen, J3, P3, hn, k3⟩
      refine ⟨_, rfl, _, rfl, _, rfl, _, rfl, by show 4 ≤ sizeLine; decide, fun t ht => ?_⟩
      have kt : Ext H3 (upd H3 t (.tup [.ref j, .str (S l), .ref hs, .ref ss])) := Ext.refl.new ht
      exact q b j l hs ss t ps _ upd_same hP ((J3.ext kt).le (by omega)) ⟨kt _ _ P3.e1, kt _ _ P3.e2, fun p hp => (P3.at_ p hp).ext kt, P3.dj, P3.out, P3.ne⟩ hlen hn (k3.trans kt) njh njs nj (Hn hhs) (Hn hss2)
end
end Pd

set_option maxHeartbeats 4000000
namespace Pd
open PySem PySem.Spec PyProof.Rows L2 SX
/-! ### a step of a shelf and of its state -/
theorem lown_next {st : Addr} {y : Ls} {R : List Row2} {rl : Addr} {lp : Lp} (e : lp.four = y.four) {a : Addr} (h : a ∈ lown st { y with R := R, rl := rl, ps := lp :: y.ps }) : a ∈ lown st y ∨ a = rl ∨ a = lp.rl := by
  have h : a ∈ st :: y.pl :: y.four :: rl :: ([lp.four, lp.rl] ++ y.ps.flatMap fun p => [p.four, p.rl]) := h
  rw [e] at h
  have four : y.four ∈ lown st y := List.mem_cons_of_mem _ (List.mem_cons_of_mem _ (List.mem_cons_self ..))
  simp only [List.mem_cons, List.mem_append, List.mem_nil_iff, or_false] at h
  rcases h with h | h | h | h | (h | h) | h
  · exact .inl (h ▸ List.mem_cons_self ..)
  · exact .inl (h ▸ List.mem_cons_of_mem _ (List.mem_cons_self ..))
  · exact .inl (h ▸ four)
  · exact .inr (.inl h)
  · exact .inl (h ▸ four)
  · exact .inr (.inr h)
  · exact .inl (List.mem_cons_of_mem _ (List.mem_cons_of_mem _ (List.mem_cons_of_mem _ (List.mem_cons_of_mem _ h))))
/-- the pair behind a step -/
def Pr.next (p : Pr) (q : Pst) (R' : List Row3) (n' : Nat) (rl : Addr) (lp : Lp) (R2 : List Row2) : Pr := { p with x := p.x.next q R' n', y := { p.y with R := R2, rl := rl, ps := lp :: p.y.ps } }
theorem PrAt.step {K : PySem.W.Frag} {C CD CS : Addr} {b : Nat} {H H1 H2 : Hp} {p : Pr} (h : PrAt K C CD CS b H p) {q : Pst} {R' : List Row3} {n' : Nat} {lp : Lp} {rl : Addr} {R2 : List Row2} (k1 : KpL (own p.s p.x) H H1) (S1 : ShAt K C CD CS H1 p.s (p.x.next q R' n')) (pq : PastOf H p.x q)
    (k2 : KpL [p.st, p.y.pl] H1 H2) (L2 : LsAt K b H2 p.st { p.y with R := R2, rl := rl, ps := lp :: p.y.ps }) (lq : LPast H1 p.y lp rl) (eR : R2 = prs R') :
    PrAt K C CD CS b H2 (p.next q R' n' rl lp R2) ∧ (∀ a ∈ fp (p.next q R' n' rl lp R2), a ∈ fp p ∨ H a = none) ∧ KpL (fp p) H H2 := by
  have L1 : LsAt K b H1 p.st p.y := h.L.kpL k1 h.S.chg fun a z e => h.dj a e z
  have st1 : p.st ∈ lown p.st p.y := List.mem_cons_self ..
  have pl1 : p.y.pl ∈ lown p.st p.y := List.mem_cons_of_mem _ (List.mem_cons_self ..)
  have two : ∀ a ∈ [p.st, p.y.pl], a ∈ lown p.st p.y := fun a z => by
    simp only [List.mem_cons, List.mem_nil_iff, or_false] at z
    rcases z with rfl | rfl
    · exact st1
    · exact pl1
  have c1 : ChgM H1 [p.st, p.y.pl] := fun a z => L1.chg a (two a z)
  have ownn : ∀ a ∈ own p.s (p.x.next q R' n'), a ∈ own p.s p.x ∨ H a = none := fun a z => by
    rcases (own_next pq.t).mp z with z | z | z
    · exact .inl z
    · exact .inr (z ▸ pq.la)
    · exact .inr (z ▸ pq.ls)
  have nl : ∀ a ∈ own p.s (p.x.next q R' n'), a ∉ lown p.st p.y := fun a z e => by
    rcases ownn a z with z | z
    · exact h.dj a z e
    · exact h.L.dom e z
  have lownn : ∀ a ∈ lown p.st { p.y with R := R2, rl := rl, ps := lp :: p.y.ps }, a ∈ lown p.st p.y ∨ H1 a = none := fun a z => by
    rcases lown_next lq.four z with z | z | z
    · exact .inl z
    · rcases lq.rl2 with e | e
      · exact .inl (by rw [z, e]; exact List.mem_cons_of_mem _ (List.mem_cons_of_mem _ (List.mem_cons_of_mem _ (List.mem_cons_self ..))))
      · exact .inr (z ▸ e)
    · exact .inr (z ▸ lq.rl1)
  have old : ∀ {a}, a ∈ own p.s p.x → a ∈ own p.s (p.x.next q R' n') := fun z => (own_next pq.t).mpr (.inl z)
  refine ⟨⟨S1.kpL k2 c1 fun a z e => nl a z (two a e), L2, ⟨eR, h.ag.s, by
    show (lp.rws, lp.R) :: p.y.ps.map (fun p => (p.rws, p.R)) = ([q.g.s1, q.g.s2, q.g.s3, q.g.s4], prs q.R) :: p.x.st.map fun q => ([q.g.s1, q.g.s2, q.g.s3, q.g.s4], prs q.R)
    rw [h.ag.ps, lq.rws, lq.R, h.ag.s, h.ag.R, pq.g, pq.R]⟩, fun a z e => ?_⟩, fun a z => ?_, (k1.mono fun a z => List.mem_append_left _ z).trans (k2.mono fun a z => List.mem_append_right _ (two a z))⟩
  · rcases lownn a e with e | e
    · exact nl a z e
    · exact S1.dom z e
  · rcases List.mem_append.mp z with z | z
    · rcases ownn a z with z | z
      · exact .inl (List.mem_append_left _ z)
      · exact .inr z
    · rcases lownn a z with z | z
      · exact .inl (List.mem_append_right _ z)
      · exact .inr (k1.ne z fun e => S1.dom (old e) z)
/-- how far a pair has gone -/
structure Sz (p : Pr) (m : Nat) : Prop where
  n : p.x.n ≤ m
  st : p.x.st.length ≤ m
  ps : p.y.ps.length ≤ m
theorem Sz.mono {p : Pr} {m m' : Nat} (h : Sz p m) (l : m ≤ m') : Sz p m' := ⟨Nat.le_trans h.n l, Nat.le_trans h.st l, Nat.le_trans h.ps l⟩
theorem Sz.next {p : Pr} {m : Nat} (h : Sz p m) {q : Pst} {R' : List Row3} {n' : Nat} {rl : Addr} {lp : Lp} {R2 : List Row2} (e : n' ≤ p.x.n + 1) : Sz (p.next q R' n' rl lp R2) (m + 1) :=
  ⟨by have := h.n; show n' ≤ _; omega, by have := h.st; show p.x.st.length + 1 ≤ _; omega, by have := h.ps; show p.y.ps.length + 1 ≤ _; omega⟩
/-- a method called by one keyword -/
structure MtK (P : Program) (w : World) (K : PySem.W.Frag) (mg : Str → Option Value) (base : Heap) (C : Addr) (k : Nat) (m : Str) (ps ks : List Str) (sp : Sp) : Prop where
  ex : ∃ (g : Addr) (fd : FuncData), Meth K C m g ∧ FnOk P w K mg base CX0 k g fd ps sp ∧ KBn K fd ps 1 ks (fun us ws => us ++ ws) (fun vs zs => vs ++ zs)
def spDeed (K : PySem.W.Frag) (C CD CS : Addr) (b : Nat) : Sp := fun vs H Q _ => ∃ j n p l m, vs = [.ref j, .ref p.s, .ref p.st, .str (S l)] ∧ JarAt H j n ∧ n < 900000 ∧ PrAt K C CD CS b H p ∧ Good l ∧ Sz p m ∧ m ≤ 90000 ∧ j ∉ fp p ∧
  ∀ p' H', p'.s = p.s → p'.st = p.st → PrAt K C CD CS b H' p' → Sz p' (m + 1) → (∀ a ∈ fp p', a ∈ fp p ∨ H a = none) → JarAt H' j (n + 1) → KpL (j :: fp p) H H' → Q (.bl true) H'
theorem Sz.R {K : PySem.W.Frag} {C CD CS : Addr} {b : Nat} {H : Hp} {p : Pr} {m : Nat} (z : Sz p m) (h : PrAt K C CD CS b H p) : p.y.R.length ≤ m := by
  rw [h.ag.len]
  exact Nat.le_trans h.S.rows.len z.n
section
variable {P : Program} {w : World} {K : PySem.W.Frag} {mg : Str → Option Value} {base : Heap}
end
end Pd

set_option maxHeartbeats 1000000
namespace Pd
open PySem PySem.Spec PyProof.Rows L2 RT
section
variable {prog : Program} {w : World} {A : Around} {E : Value → Shared → Prop} {s : Shared} {R : Result → Shared → Prop}
theorem extend_rev {it l S : Addr} {items : Array Value} (res : Value) (c₀ : Nat) (hh : A.handled = none) (hit : s.heap.IsRevIter it l ((items.size : Int) - 1)) (hl : s.heap.IsList l items) (hne : l ≠ it) (hSi : S ≠ it) (hSl : S ≠ l) (hn : items.size ≤ sizeLine)
    (hS : s.heap.get? S = some { cls := .type "list", data := .seq #[] c₀ })
    (hR : ∀ (h' : Heap) (tk : Nat) (acc' : Array Value) (c' : Nat), (∀ b o, b ≠ it → b ≠ S → s.heap.get? b = some o → h'.get? b = some o) → h'.get? S = some { cls := .type "list", dict := none, data := .seq acc' c', slots := #[] } →
      ItemsOf (fun i v => items[items.size - 1 - i]? = some v) acc' items.size → R (.ok (.ret res)) { s with heap := h', toks := tk }) :
    wpAny (model prog w) A.in1 (Builtin.List.listExtendWith (.ref S) (.ref it) res)
      (fun fin s' => match fin with | .done f => R (.ok f) s' | .again c' => c'.quiet = true ∧ codeAny (model prog w) A c' R s') (fun e s' => R (.error e) s') s := by
  have hh1 : A.in1.handled = none := hh
  have W := (Walks.listRev (prog := prog) (w := w) (A := A.in1) hh1 it l hne items).toS
  have hSf : S ∉ [it, l] := by simp only [List.mem_cons, List.not_mem_nil, or_false, not_or]; exact ⟨hSi, hSl⟩
  have hT : s.TypeIs (.ref it) "list_reverseiterator" := hit.typeIs
  have h1 : Builtin.List.listSameRef (.ref S) (.ref it) = false := by simp [Builtin.List.listSameRef, hSi]
  unfold Builtin.List.listExtendWith
  refine wpAny_bind (wpAny_typeOf hT ?_)
  rw [if_neg (by rw [h1]; decide)]
  refine wpAny_bind (wpAny_pyIter_revIter hit ?_)
  refine wpAny_bind (wpAny_holding ?_)
  unfold Builtin.List.listLengthHint
  refine wpAny_bind (wpAny_specialOf hT nolen_lri ?_)
  show wpAny _ A.in1 (specialOf (Value.ref it) (Str.ofString "__length_hint__") >>= _) _ _ _
  refine wpAny_bind (wpAny_specialOf hT hint_lri ?_)
  generalize hid : ("list_reverseiterator.__length_hint__" : String) = id0
  wp_delta
  rw [show splitId id0 = some ("list_reverseiterator", "__length_hint__") from by subst hid; decide +kernel]
  subst hid
  refine wpAny_bind (wpAny_isInstance (b := true) hT (by rw [isSubtype_type]; kernel_rfl) ?_)
  refine wpAny_pure ?_
  rw [if_neg (by decide)]
  have e0 : ((items.size : Nat) : Int) - 1 - ((0 : Nat) : Int) = (items.size : Int) - 1 := by omega
  refine wpAny_pure ⟨plainId_quiet F.plain_extend_loop _, codeAny_extend_loopS W hn _ hSf _ items.size 0 _ _ _ rfl (Nat.zero_le _) ⟨Nat.zero_le _, by rw [e0]; exact hit, hl⟩ hS (ItemsOf.nil _) fun s' acc' c' hm hS' hacc => ?_⟩
  rw [Moved.eq_with hm]
  exact hR s'.heap s'.toks acc' c' (fun b o hb hbS e => hm.heap b o (fun hmem => (List.mem_cons.mp hmem).elim hbS fun hmem => hb (List.mem_singleton.mp hmem)) e) hS' hacc
theorem list_init_rev {it l S : Addr} {items : Array Value} (hh : A.handled = none) (hit : s.heap.IsRevIter it l ((items.size : Int) - 1)) (hl : s.heap.IsList l items) (hne : l ≠ it) (hSi : S ≠ it) (hSl : S ≠ l) (hn : items.size ≤ sizeLine)
    (hS : s.heap.get? S = some { cls := .type "list", data := .seq #[] })
    (hR : ∀ (h' : Heap) (tk : Nat) (acc' : Array Value) (c' : Nat), (∀ b o, b ≠ it → b ≠ S → s.heap.get? b = some o → h'.get? b = some o) → h'.get? S = some { cls := .type "list", dict := none, data := .seq acc' c', slots := #[] } →
      ItemsOf (fun i v => items[items.size - 1 - i]? = some v) acc' items.size → R (.ok (.ret .none)) { s with heap := h', toks := tk }) :
    wpAny (model prog w) A.in1 (Builtin.«list.__init__» ⟨[.ref S, .ref it], []⟩)
      (fun fin s' => match fin with | .done f => R (.ok f) s' | .again c' => c'.quiet = true ∧ codeAny (model prog w) A c' R s') (fun e s' => R (.error e) s') s := by
  show wpAny _ A.in1 (do let old ← Builtin.List.listItems (.ref S); Builtin.List.listUpdate (.ref S) (fun _ => #[]); letGo old.toList.reverse; Builtin.List.listExtendWith (.ref S) (.ref it) .none) _ _ s
  refine wpAny_bind ?_
  unfold Builtin.List.listItems
  refine wpAny_bind (wpAny_seqItems hS rfl (wpAny_pure ?_))
  show wpAny _ A.in1 (updateSeq S (fun _ => #[]) >>= fun _ => letGo (#[] : Array Value).toList.reverse >>= fun _ => Builtin.List.listExtendWith (.ref S) (.ref it) .none) _ _ s
  refine wpAny_bind (wpAny_updateSeq hS rfl ?_)
  have hS₂ := Heap.get?_update_self (Obj.mapSeq (fun _ => (#[] : Array Value))) hS rfl
  have oth : ∀ b o, b ≠ S → s.heap.get? b = some o → (s.heap.update S (Obj.mapSeq (fun _ => (#[] : Array Value)))).get? b = some o :=
    fun b o hb e => (Heap.get?_update_other _ _ (Ne.symm hb)).trans e
  refine wpAny_bind (wpAny_letGo ?_)
  exact extend_rev (s := { s with heap := s.heap.update S (Obj.mapSeq (fun _ => (#[] : Array Value))) }) .none _ hh (hit.at fun o e => oth _ o (Ne.symm hSi) e) (hl.at fun o e => oth _ o (Ne.symm hSl) e) hne hSi hSl hn hS₂
    fun h' tk acc' c' hk hS' hacc => hR h' tk acc' c' (fun b o hb hbS e => hk b o hb hbS (oth b o hbS e)) hS' hacc
theorem call_list_rev {it l : Addr} {items : Array Value} {Q : Value → Shared → Prop} (hh : A.handled = none) (hit : s.heap.IsRevIter it l ((items.size : Int) - 1)) (hl : s.heap.IsList l items) (hne : l ≠ it) (hn : items.size ≤ sizeLine)
    (hQ : ∀ (h' : Heap) (tk : Nat) (acc' : Array Value) (c' : Nat), (∀ b o, b ≠ it → s.heap.get? b = some o → h'.get? b = some o) → h'.get? s.heap.objs.size = some { cls := .type "list", dict := none, data := .seq acc' c', slots := #[] } →
      ItemsOf (fun i v => items[items.size - 1 - i]? = some v) acc' items.size → Q (.ref s.heap.objs.size) { s with heap := h', toks := tk }) :
    wpAny (model prog w) A (call (.type "list") [.ref it]) Q E s := by
  obtain ⟨oi, hoi, _⟩ := id hit
  obtain ⟨ol, hol, _⟩ := id hl
  have hSi : s.heap.objs.size ≠ it := Nat.ne_of_gt (Heap.lt_size hoi)
  have hSl : s.heap.objs.size ≠ l := Nat.ne_of_gt (Heap.lt_size hol)
  refine callType_codes (Q₁ := fun obj s₁ => obj = .ref s.heap.objs.size ∧ s₁ = { s with heap := s.heap.push { cls := .type "list", data := .seq #[] } }) F.called_list (F.typeCall_list_1 _) F.entry_list_init
    (code_list_new _ ⟨rfl, rfl⟩) fun obj s₁ h₁ => ?_
  obtain ⟨rfl, rfl⟩ := h₁
  have hS : (s.heap.push { cls := .type "list", data := .seq #[] }).get? s.heap.objs.size = some { cls := .type "list", data := .seq #[] } := Heap.get?_push_size _ rfl
  refine ⟨⟨_, hS, rfl⟩, F.args_list_init_2 _ _, list_init_rev (s := { s with heap := s.heap.push { cls := .type "list", data := .seq #[] } }) hh (hit.at fun o e => Heap.get?_push_of_some _ e) (hl.push _) hne hSi hSl hn hS fun h' tk acc' c' hk hS' hacc => ?_⟩
  exact ⟨rfl, hQ h' tk acc' c' (fun b o hb e => hk b o hb (Nat.ne_of_lt (Heap.lt_size e)) (Heap.get?_push_of_some _ e)) hS' hacc⟩
end
/-- list(reversed(x)), x a list: a new list -/
def tListRev (K : PySem.W.Frag) (te : TE) : TE := fun σ H Q => te σ H fun v H1 => ∃ (a : Addr) (xs : List V), v = .ref a ∧ SqL K H1 a xs ∧ ∀ q, H1 q = none → Q (.ref q) (upd H1 q (.lst xs.reverse))
section
variable {X : Cx}
theorem pe_listRev {e : Expr} {te : TE} {p p2 pos pos2 : Pos} (hc : X.calm = true) (hg : Gl X "list") (hm : X.mg "list" = none) (hg2 : Gl X "reversed") (hm2 : X.mg "reversed" = none) (he : PE X e te)
    (hs : starEach [e] X.env = (false, eval e X.env) :: starEach [] X.env := by rfl)
    (hs2 : starEach [.Call (.Name "reversed" p2) [e] [] pos2] X.env = (false, eval (.Call (.Name "reversed" p2) [e] [] pos2) X.env) :: starEach [] X.env := by rfl) :
    PE X (.Call (.Name "list" p) [.Call (.Name "reversed" p2) [e] [] pos2] [] pos) (tListRev X.K te) := by
  refine ⟨fun pins s σ H Q I h => ?_⟩
  refine Call_ (ld_blt I hg hm (show bootBuiltins "list" = some (.type "list") by decide +kernel) (PyProof.Rows.callWith_type1 (args_cons (Call_ (ld_blt I hg2 hm2 PyProof.Rows.boot_reversed (PyProof.Rows.callWith_type1 (args_cons (thn (he.run pins s σ H _ I h) fun u s1 ⟨v, H1, I1, r1, q1⟩ => args_nil ?_) hs) hs rfl))) hs2) hs2 rfl))
  obtain ⟨a, xs, ev, hq, q⟩ := q1
  subst ev
  obtain rfl : u = Value.ref a := r1
  obtain ⟨its, rv, p', hz⟩ := I1.list hq
  refine call_reversed_list p'.isList (args_nil ?_)
  have hl := p'.isList
  obtain ⟨ol, hol, _⟩ := id hl
  have hne : a ≠ s1.heap.objs.size := Nat.ne_of_lt (Heap.lt_size hol)
  have hn : its.toArray.size ≤ sizeLine := by rw [List.size_toArray, ← rv.length]; exact hz
  refine call_list_rev (s := { s1 with heap := s1.heap.push (revObj a ((its.toArray.size : Int) - 1)) }) (I1.ok.hd hc) ⟨_, Heap.get?_push_size _ rfl, rfl, rfl⟩ (hl.push _) hne hn fun h' tk acc c hk hS hi => ?_
  have le : s1.heap.objs.size ≤ (s1.heap.push (revObj a ((its.toArray.size : Int) - 1))).objs.size := by simp [Heap.push]
  have k0 : ∀ b o, s1.heap.get? b = some o → h'.get? b = some o := fun b o e => hk b o (Nat.ne_of_lt (Heap.lt_size e)) (Heap.get?_push_of_some _ e)
  refine ⟨.ref _, upd H1 _ (.lst xs.reverse), I1.laid (t' := tk) k0 le (show ObjOk X.prog X.w _ _ _ (.lst xs.reverse) from ⟨by rw [List.length_reverse]; exact hz, acc.toList, c, vals_rev rv hi, ?_⟩), rfl, q _ (I1.hok.fresh le)⟩
  rw [Array.toArray_toList]
  exact hS
end
section
variable {X : Cx} {n : Nat} {a b : Expr} {ta tb : TE} {pos : Pos}
theorem ptn_cmpR {op : CmpOp} {r : R2} (ho : OpR X (compareOp op) r) (ha : PEn n X a ta) (hb : PEn n X b tb) (hm : behindInMarks op b = false) : PTn n X (.Compare a [op] [b] pos) (tTest (tOp r ta tb)) := by
  constructor
  intro pins s σ H Q l I h
  refine wpAny_isTrue_Compare1 (thk l (ha.run pins s σ H _ l I h) fun v s1 l1 ⟨x, H1, I1, r1, q1⟩ => thn (hb.run pins s1 σ H1 _ l1 I1 q1) fun u s2 ⟨y, H2, I2, r2, q2⟩ => thn (ho pins s2 σ H2 x y v u _ I2 r1 r2 q2) ?_) hm
  rintro c s3 ⟨z, H3, I3, r3, k, rfl, q3⟩
  cases r3
  exact wpAny_truthy_bool ⟨H3, I3, q3⟩
end
end Pd

set_option maxHeartbeats 4000000
namespace Pd
open PySem PySem.Spec PyProof.Rows L2 SX
/-! ### a body where what is known of tokens grows, as a plain body; and in a test -/
def outB (t : TSB) : TS := fun D σ H => t { nx := fun _ => D.nx, rt := fun _ => D.rt, bk := fun _ => D.bk, ct := fun _ => D.ct } 0 σ H
theorem pss_ofB {X : Cx} {sts : List Stmt} {t : TSB} (h : PSsB X sts t) : PSs X sts (outB t) :=
  ⟨fun pins s σ H D I q => wpAny_mono (h.run pins s σ H _ 0 (Nat.zero_le _) I q) (fun f s' ⟨b, _, z⟩ => by cases f <;> exact z) fun _ _ z => z⟩
theorem pwn_and1 {X : Cx} {n : Nat} {a : Expr} {t : TT} {pos : Pos} (ha : PTn n X a t) : PWn n X (.BoolOp .And [a] pos) t := by
  constructor
  intro wh pins s σ H Q l I h
  refine isTrue_and (thn (ha.run pins s σ H Q l I h) ?_)
  rintro (_ | _) s1 q
  · exact q
  · exact isTrue_and_nil q
theorem pwn_and {X : Cx} {n : Nat} {a b : Expr} {more : List Expr} {t u : TT} {pos : Pos} (ha : PTn n X a t) (hb : PWn n X (.BoolOp .And (b :: more) pos) u) : PWn n X (.BoolOp .And (a :: b :: more) pos) (tAnd t u) := by
  constructor
  intro wh pins s σ H Q l I h
  refine isTrue_and (thk l (ha.run pins s σ H _ l I h) ?_)
  rintro (_ | _) s1 l1 ⟨H1, I1, q⟩
  · exact ⟨H1, I1, q⟩
  · exact hb.run wh pins s1 σ H1 Q l1 I1 q
theorem op_eqDK {X : Cx} {K : PySem.W.Frag} (h : X.K = K) (hu : X.A.units + 64 < cLine) : OpR X (compareOp .Eq) (rEqD K) := by
  subst h; exact op_eqD hu
/-! ### numbers as texts -/
theorem dig_in : ∀ c : Nat, 48 ≤ c → c ≤ 57 → c ∈ CH := by
  intro c h1 h2
  have : c = 48 ∨ c = 49 ∨ c = 50 ∨ c = 51 ∨ c = 52 ∨ c = 53 ∨ c = 54 ∨ c = 55 ∨ c = 56 ∨ c = 57 := by omega
  rcases this with rfl | rfl | rfl | rfl | rfl | rfl | rfl | rfl | rfl | rfl <;> decide
theorem num_txt {i : Int} (h0 : 0 ≤ i) (h1 : i < 10 ^ 10) : ∃ l, (PySem.Str.ofString (toString i)) = S l ∧ (∀ c ∈ l, c ∈ CH) ∧ l.length ≤ 10 := by
  have e : i = ((i.toNat : Nat) : Int) := by omega
  have sgn := PySem.W.KIN.signs_num i.toNat
  have hl := PySem.W.KT.len_num h0 h1
  rw [← e] at sgn
  refine ⟨(Nat.toDigits 10 i.toNat).map Char.toNat, ?_, fun c hc => ?_, ?_⟩
  · refine TL.ext_tl (sgn.trans ?_)
    simp [S, TL.tl]
  · obtain ⟨d, hd, rfl⟩ := List.mem_map.mp hc
    have := Nat.isDigit_of_mem_toDigits (by decide) (by decide) hd
    have h : d.val ≥ 48 ∧ d.val ≤ 57 := by
      unfold Char.isDigit at this
      simpa using this
    exact dig_in _ (by have := h.1; show 48 ≤ d.val.toNat; exact UInt32.le_iff_toNat_le.mp this) (by have := h.2; show d.val.toNat ≤ 57; exact UInt32.le_iff_toNat_le.mp this)
  · rw [← sgn]
    have z : (PySem.Str.ofString (toString i)).cps.toList.length = (PySem.Str.ofString (toString i)).length := by rw [Array.length_toList]; rfl
    rw [z]
    omega
def spLRow : Sp := fun vs H Q _ => ∃ (j : Addr) (n : Nat) (m : Int), vs = [.ref j, .int m] ∧ JarAt H j n ∧ 0 ≤ m ∧ m ≤ 200 ∧ n + 30 < 1000000 ∧ ∀ a ts H', H a = none → H' a = some (.lst (txV ts)) → ts.length = m.toNat → (∀ t ∈ ts, Good t) → JarAt H' j (n + 30) → Kp j H H' → Q (.ref a) H'
structure Hd where
  (t a b : Addr) (ys : List Str)
structure HdAt (K : PySem.W.Frag) (H : Hp) (i : Hd) : Prop where
  t : H i.t = some (.tup [.ref i.a, .ref i.b])
  a : H i.a = some (.lst (i.ys.map V.str))
  b : H i.b = some (.lst (i.ys.map V.str))
  ok : ∀ y ∈ i.ys, PyData.strOk y = true
def spLHeld (K : PySem.W.Frag) : Sp := fun vs H Q _ => ∃ (l : Addr) (is : List Hd), vs = [.ref l] ∧ H l = some (.lst (is.map fun i => V.ref i.t)) ∧ is.length ≤ 1000 ∧ (∀ i ∈ is, HdAt K H i) ∧ ∀ H', Ext H H' → Q (.bl true) H'
theorem strs_dp {K : PySem.W.Frag} {H : Hp} : ∀ {ys : List Str}, DpAll K H (ys.map V.str) (ys.map PyData.str)
  | [] => .nil
  | t :: ts => .cons (.str _) strs_dp
theorem strs_shape {ys : List Str} (h : ∀ y ∈ ys, PyData.strOk y = true) : SeqAt.shaped (.list (ys.map PyData.str)) = true := by
  have key : PyData.canLayAll0 (ys.map PyData.str) = true ∧ PyData.depthAll (ys.map PyData.str) ≤ 0 := by
    induction ys with
    | nil => exact ⟨rfl, Nat.zero_le _⟩
    | cons t ts ih =>
      obtain ⟨h1, h2⟩ := ih fun s hs => h s (List.mem_cons_of_mem _ hs)
      have z := h t (List.mem_cons_self ..)
      refine ⟨?_, ?_⟩
      · rw [List.map_cons]; simp only [PyData.canLayAll0, PyData.canLay0, h1, z, Bool.and_self]
      · rw [List.map_cons]; simp only [PyData.depthAll, PyData.depth]; omega
  unfold SeqAt.shaped
  simp only [PyData.canLay0, PyData.depth, key.1, Bool.true_and]
  exact decide_eq_true (by have := key.2; omega)
section
variable {P : Program} {w : World} {K : PySem.W.Frag} {mg : Str → Option Value} {base : Heap}
end
end Pd

set_option maxHeartbeats 4000000
namespace Pd
open PySem PySem.Spec PyProof.Rows L2 SX
/-! ### all shelves and states of a law, and lists that stand outside -/
structure BigAt (K : PySem.W.Frag) (C CD CS : Addr) (b : Nat) (H0 H : Hp) (hs ss : Addr) (ps : List Pr) (m : Nat) : Prop where
  e1 : H hs = some (.lst (ps.map fun p => V.ref p.s))
  e2 : H ss = some (.lst (ps.map fun p => V.ref p.st))
  at_ : ∀ (i : Nat) (p : Pr), ps[i]? = some p → PrAt K C CD CS b H p
  dj : ∀ (i j : Nat) (p q : Pr), ps[i]? = some p → ps[j]? = some q → i ≠ j → ∀ a ∈ fp p, a ∉ fp q
  out : ∀ (i : Nat) (p : Pr), ps[i]? = some p → hs ∉ fp p ∧ ss ∉ fp p
  ne : hs ≠ ss
  new : ∀ (i : Nat) (p : Pr), ps[i]? = some p → ∀ a ∈ fp p, H0 a = none
  ext : Ext H0 H
  sz : ∀ (i : Nat) (p : Pr), ps[i]? = some p → Sz p m
/-- an address that stands outside of shelves and states -/
structure Ot (hs ss : Addr) (ps : List Pr) (a : Addr) : Prop where
  h1 : a ≠ hs
  h2 : a ≠ ss
  h3 : ∀ (i : Nat) (p : Pr), ps[i]? = some p → a ∉ fp p
section
variable {K : PySem.W.Frag} {C CD CS : Addr} {b : Nat} {H0 H H' : Hp} {hs ss : Addr} {ps : List Pr} {m : Nat}
theorem BigAt.kpL {js : List Addr} (B : BigAt K C CD CS b H0 H hs ss ps m) (k : KpL js H H') (c : ChgM H js) (n : ∀ a ∈ js, Ot hs ss ps a ∧ H0 a = none) : BigAt K C CD CS b H0 H' hs ss ps m :=
  ⟨k _ _ (fun z => (n _ z).1.h1 rfl) B.e1, k _ _ (fun z => (n _ z).1.h2 rfl) B.e2, fun i p e => (B.at_ i p e).kpL k c fun a z e' => (n a e').1.h3 i p e z, B.dj, B.out, B.ne, B.new, fun a o e => k a o (fun z => by rw [(n a z).2] at e; cases e) (B.ext a o e), B.sz⟩
theorem BigAt.extend (B : BigAt K C CD CS b H0 H hs ss ps m) (k : Ext H H') : BigAt K C CD CS b H0 H' hs ss ps m := B.kpL (js := []) (.ext k) (fun _ z => nomatch z) fun _ z => nomatch z
theorem get_set {ps : List Pr} {i j : Nat} {p' q : Pr} (h : (ps.set i p')[j]? = some q) : (j = i ∧ q = p') ∨ (j ≠ i ∧ ps[j]? = some q) := by
  by_cases e : j = i
  · subst e
    left
    rw [List.getElem?_set] at h
    split at h
    · split at h
      · exact ⟨rfl, (Option.some.inj h).symm⟩
      · cases h
    · exact absurd rfl ‹_›
  · right
    rw [List.getElem?_set_ne (Ne.symm e)] at h
    exact ⟨e, h⟩
theorem map_set {α : Type} {ps : List Pr} {i : Nat} {p p' : Pr} (f : Pr → α) (h : ps[i]? = some p) (e : f p' = f p) : (ps.set i p').map f = ps.map f := by
  rw [List.map_set, e]
  apply List.ext_getElem?
  intro k
  by_cases hk : k = i
  · subst hk
    have hl : k < ps.length := (List.getElem?_eq_some_iff.mp h).1
    rw [List.getElem?_set_self (by rw [List.length_map]; exact hl), List.getElem?_map, h]; rfl
  · rw [List.getElem?_set_ne (Ne.symm hk)]
theorem BigAt.set {js : List Addr} {i : Nat} {p p' : Pr} {m' : Nat} (B : BigAt K C CD CS b H0 H hs ss ps m) (hi : ps[i]? = some p) (e1 : p'.s = p.s) (e2 : p'.st = p.st) (P' : PrAt K C CD CS b H' p') (s' : Sz p' m') (lm : m ≤ m') (fr : ∀ a ∈ fp p', a ∈ fp p ∨ H a = none) (k : KpL (js ++ fp p) H H') (c : ChgM H js)
    (n : ∀ a ∈ js, Ot hs ss ps a ∧ H0 a = none) : BigAt K C CD CS b H0 H' hs ss (ps.set i p') m' := by
  have cc : ChgM H (js ++ fp p) := fun a z => by
    rcases List.mem_append.mp z with z | z
    · exact c a z
    · exact (B.at_ i p hi).chg a z
  have H0n : ∀ {a}, H a = none → H0 a = none := fun {a} z => by
    cases e : H0 a with
    | none => rfl
    | some o => rw [B.ext _ _ e] at z; cases z
  have domh : H hs ≠ none ∧ H ss ≠ none := ⟨(by rw [B.e1]; simp), (by rw [B.e2]; simp)⟩
  refine ⟨?_, ?_, fun j q hq => ?_, fun j l q r hq hr njl a ha => ?_, fun j q hq => ?_, B.ne, fun j q hq a ha => ?_, fun a o e => ?_, fun j q hq => ?_⟩
  · rw [map_set (fun p => V.ref p.s) hi (by rw [e1])]
    refine k _ _ (fun z => ?_) B.e1
    rcases List.mem_append.mp z with z | z
    · exact (n _ z).1.h1 rfl
    · exact (B.out i p hi).1 z
  · rw [map_set (fun p => V.ref p.st) hi (by rw [e2])]
    refine k _ _ (fun z => ?_) B.e2
    rcases List.mem_append.mp z with z | z
    · exact (n _ z).1.h2 rfl
    · exact (B.out i p hi).2 z
  · rcases get_set hq with ⟨_, rfl⟩ | ⟨ne, hq⟩
    · exact P'
    · refine (B.at_ j q hq).kpL k cc fun a z e => ?_
      rcases List.mem_append.mp e with e | e
      · exact (n _ e).1.h3 j q hq z
      · exact B.dj j i q p hq hi ne a z e
  · rcases get_set hq with ⟨ej, eq⟩ | ⟨ne, hq2⟩
    · rw [eq] at ha
      rcases get_set hr with ⟨el, er⟩ | ⟨ne2, hr2⟩
      · exact absurd (ej.trans el.symm) njl
      · intro z
        rcases fr a ha with h | h
        · exact B.dj i l p r hi hr2 (Ne.symm ne2) a h z
        · exact (B.at_ l r hr2).dom z h
    · rcases get_set hr with ⟨el, er⟩ | ⟨ne2, hr2⟩
      · intro z
        rw [er] at z
        rcases fr a z with h | h
        · exact B.dj j i q p hq2 hi ne a ha h
        · exact (B.at_ j q hq2).dom ha h
      · exact B.dj j l q r hq2 hr2 njl a ha
  · rcases get_set hq with ⟨_, rfl⟩ | ⟨ne, hq⟩
    · refine ⟨fun z => ?_, fun z => ?_⟩
      · rcases fr _ z with h | h
        · exact (B.out i p hi).1 h
        · exact domh.1 h
      · rcases fr _ z with h | h
        · exact (B.out i p hi).2 h
        · exact domh.2 h
    · exact B.out j q hq
  · rcases get_set hq with ⟨_, rfl⟩ | ⟨ne, hq⟩
    · rcases fr a ha with h | h
      · exact B.new i p hi a h
      · exact H0n h
    · exact B.new j q hq a ha
  · refine k a o (fun z => ?_) (B.ext a o e)
    rcases List.mem_append.mp z with z | z
    · rw [(n a z).2] at e; cases e
    · rw [B.new i p hi a z] at e; cases e
  · rcases get_set hq with ⟨_, rfl⟩ | ⟨ne, hq⟩
    · exact s'
    · exact (B.sz j q hq).mono lm
theorem Ot.set {i : Nat} {p p' : Pr} {a : Addr} (o : Ot hs ss ps a) (hi : ps[i]? = some p) (fr : ∀ c ∈ fp p', c ∈ fp p ∨ H c = none) (ha : H a ≠ none) : Ot hs ss (ps.set i p') a :=
  ⟨o.h1, o.h2, fun j q hq z => by
    rcases get_set hq with ⟨_, rfl⟩ | ⟨ne, hq⟩
    · rcases fr a z with h | h
      · exact o.h3 i p hi h
      · exact ha h
    · exact o.h3 j q hq z⟩
theorem BigAt.fresh (B : BigAt K C CD CS b H0 H hs ss ps m) {a : Addr} (h : H a = none) : Ot hs ss ps a ∧ H0 a = none :=
  ⟨⟨(by rintro rfl; rw [B.e1] at h; cases h), (by rintro rfl; rw [B.e2] at h; cases h), fun i p e z => (B.at_ i p e).dom z h⟩, by
    cases e : H0 a with
    | none => rfl
    | some o => rw [B.ext _ _ e] at h; cases h⟩
theorem PrsAt.big (h : PrsAt K C CD CS b H hs ss ps) (new : ∀ p ∈ ps, ∀ a ∈ fp p, H0 a = none) (e : Ext H0 H) (s : ∀ p ∈ ps, Sz p m) : BigAt K C CD CS b H0 H hs ss ps m := by
  have mem : ∀ {i : Nat} {p : Pr}, ps[i]? = some p → p ∈ ps := fun h => List.mem_of_getElem? h
  refine ⟨h.e1, h.e2, fun i p e => h.at_ p (mem e), fun i j p q hp hq ne a ha ha' => ?_, fun i p e => h.out p (mem e), h.ne, fun i p e => new p (mem e), e, fun i p e => s p (mem e)⟩
  have pw := List.pairwise_iff_getElem.mp h.dj
  obtain ⟨li, ei⟩ := List.getElem?_eq_some_iff.mp hp
  obtain ⟨lj, ej⟩ := List.getElem?_eq_some_iff.mp hq
  rcases Nat.lt_or_gt_of_ne ne with lt | lt
  · exact pw i j li lj lt a (by rw [ei]; exact ha) (by rw [ej]; exact ha')
  · exact pw j i lj li lt a (by rw [ej]; exact ha') (by rw [ei]; exact ha)
theorem ref_at {i : Nat} {p : Pr} (f : Pr → Addr) (h : ps[i]? = some p) : atI (ps.map fun p => V.ref (f p)) (i : Nat) = some (.ref (f p)) :=
  atI_nat (by rw [List.getElem?_map, h]; rfl)
end
end Pd

set_option maxHeartbeats 4000000
namespace Pd
open PySem PySem.Spec PyProof.Rows L2 SX
/-! ### undo -/
theorem Stk.top {K : PySem.W.Frag} {C CD : Addr} {H : Hp} {t : Addr} {R : List Row3} {n : Nat} {q : Pst} {ps : List Pst} (h : Stk K C CD H t R n (q :: ps)) (T : TabAt H t R) : ∃ Rt, TabAt H q.t Rt ∧ Rev q Rt ∧ RowsOk q.R n ∧ Stk K C CD H q.t q.R n ps ∧ PstAt K C CD H q := by
  cases h with
  | same h e r ok k => exact ⟨R, e ▸ T, r, ok, e ▸ k, h⟩
  | other h e1 e2 tb ok ne k => exact ⟨q.R, tb, ⟨(by rw [e1]; exact fun _ z => nomatch z), (by rw [e1]; exact List.nodup_nil), (by rw [e1, e2, List.filter_eq_self.mpr (fun a _ => by simp)]; simp)⟩, ok, k, h⟩
def Sh.undone (x : Sh) (q : Pst) (rest : List Pst) : Sh := { x with d := q.d, g := q.g, t := q.t, R := q.R, st := rest }
def spSUndo (K : PySem.W.Frag) (C CD CS : Addr) : Sp := fun vs H Q _ => ∃ s x q rest, vs = [.ref s] ∧ ShAt K C CD CS H s x ∧ x.st = q :: rest ∧ x.n ≤ 100000 ∧ ∀ H', ShAt K C CD CS H' s (x.undone q rest) → KpL (own s x) H H' → Q .non H'
theorem own_undone {s : Addr} {x : Sh} {q : Pst} {rest : List Pst} (e : x.st = q :: rest) {a : Addr} (h : a ∈ own s (x.undone q rest)) : a ∈ own s x := by
  have hq : q ∈ x.st := by rw [e]; exact List.mem_cons_self ..
  have h : a ∈ s :: q.t :: x.p :: rest.flatMap fun q => [q.la, q.ls, q.t] := h
  simp only [List.mem_cons] at h
  rcases h with h | h | h | h
  · rw [h]; exact own_s
  · rw [h]; exact (own_st hq).2.2
  · rw [h]; exact own_p
  · obtain ⟨q', hq', ha⟩ := List.mem_flatMap.mp h
    have hq2 : q' ∈ x.st := by rw [e]; exact List.mem_cons_of_mem _ hq'
    simp only [List.mem_cons, List.mem_nil_iff, or_false] at ha
    rcases ha with h | h | h
    · rw [h]; exact (own_st hq2).1
    · rw [h]; exact (own_st hq2).2.1
    · rw [h]; exact (own_st hq2).2.2
theorem filter_step {R : List Row3} {gs : List (List Nat)} {g : List Nat} {i : Nat} (h : gs[i]? = some g) : (R.filter fun r => decide (r.1 ∉ gs.take i)).filter (fun r => decide (r.1 ≠ g)) = R.filter fun r => decide (r.1 ∉ gs.take (i + 1)) := by
  rw [List.filter_filter]
  congr 1
  funext r
  rw [List.take_add_one, h, Bool.eq_iff_iff]
  simp only [Bool.and_eq_true, decide_eq_true_eq, List.mem_append, Option.toList_some, List.mem_singleton, not_or]
  exact ⟨fun ⟨a, b⟩ => ⟨b, a⟩, fun ⟨a, b⟩ => ⟨b, a⟩⟩
section
variable {P : Program} {w : World} {K : PySem.W.Frag} {mg : Str → Option Value} {base : Heap}
theorem ok_sundo {f C CD CS : Addr} {fd : FuncData} (F : Fun K "undo" "Shelf.undo" sShelfUndo f fd) (Z : Scl K mg CS) : FnOk P w K mg base CX0 1 f fd ["self"] (spSUndo K C CD CS) := by
  refine F.ok scShelfUndo (fun vs H Q E h => ?_) (fun cdv A outer s H vs Q E hr h => ?_)
  · obtain ⟨s, x, q, rest, rfl, _⟩ := h
    rfl
  · obtain ⟨s, x, q, rest, rfl, S0, est, hn, fin⟩ := h
    have hu := hu_of hr
    have nd := scShelfUndo.nd
    refine ⟨_, PSs.nox (pss_cons (ps_if (pt_not (pt_truth (pe_fld (pv 0) rfl) (fun _ => rfl))) pss_never pss_nil)
      (pss_cons (ps_asg (pe_bm0 PySem.F.plainAttrs_list PySem.F.slot_list_pop PySem.F.type_list_pop mt_pop (pe_fld (pv 0) rfl)) (pg_tup (by rfl) (pgs_cons (pg_name (i := 1) nd rfl (Or.inl rfl)) (pgs_cons (pg_name (i := 2) nd rfl (Or.inl rfl)) (pgs_cons (pg_name (i := 3) nd rfl (Or.inl rfl)) (pgs_cons (pg_name (i := 4) nd rfl (Or.inl rfl)) pgs_nil))))))
      (C8.pss_cut (ps_for PassesOwn.never rfl (pi_list (pv 3)) (pg_name (i := 5) nd rfl (Or.inl rfl)) (pss_one (ps_ddel (pv 2) (pv 5))))
      (C8.pss_cut (ps_for PassesOwn.never rfl (pi_list (pv 4)) (pg_tup (by rfl) (pgs_cons (pg_name (i := 5) nd rfl (Or.inl rfl)) (pgs_cons (pg_name (i := 6) nd rfl (Or.inl rfl)) pgs_nil))) (pss_one (ps_dput hu (pv 2) (pv 5) (pv 6) rfl)))
      (pss_cons (ps_fld (pv 0) (pv 1) rfl) (pss_one (ps_fld (pv 0) (pv 2) rfl))))))), ?_⟩
    obtain ⟨dx, e⟩ := S0.ins
    have stk := S0.stk
    rw [est] at stk
    obtain ⟨Rt, T0, rv, ok, stk2, Pq⟩ := stk.top S0.tab
    have hq : q ∈ x.st := by rw [est]; exact List.mem_cons_self ..
    have hp := S0.past
    rw [est, List.reverse_cons, List.map_append] at hp
    obtain ⟨xs, exs⟩ : ∃ xs, xs = rest.reverse.map fun q => V.ref q.tp := ⟨_, rfl⟩
    rw [← exs] at hp
    replace hp : H x.p = some (.lst (xs ++ [V.ref q.tp])) := hp
    refine ⟨_, rfl, s, CS, dx, _, _, rfl, e, Z.cl, Z.n4, rfl, true, .inl ⟨_, SqL.of hp, by simp⟩, iteF ?_⟩
    refine ⟨_, rfl, s, CS, dx, _, _, rfl, e, Z.cl, Z.n4, rfl, .inl ⟨rfl, _, SqL.of hp⟩, x.p, _, .ref q.tp, rfl, rfl, hp, by simp, ?_⟩
    rw [List.dropLast_concat]
    obtain ⟨H1, z1⟩ : ∃ H', H' = upd H x.p (.lst xs) := ⟨_, rfl⟩
    rw [← z1]
    have k1 : KpL [x.p] H H1 := by rw [z1]; exact .upd (by simp)
    have c1 := chg_lst hp
    obtain ⟨nst, nsp, ntp⟩ := S0.ne
    have np : ∀ {a : Addr}, a ≠ x.p → a ∉ [x.p] := fun h => by simpa using h
    obtain ⟨kvt, _, etq, _⟩ := id T0
    have dq := S0.dis q hq
    have ntq : q.t ≠ x.p := by rintro h; rw [h, hp] at etq; cases etq
    have ntqs : q.t ≠ s := by rintro h; rw [h, e] at etq; cases etq
    have nlaq : q.la ≠ q.t := by rintro h; have := Pq.la; rw [h, etq] at this; cases this
    have nlsq : q.ls ≠ q.t := by rintro h; have := Pq.ls; rw [h, etq] at this; cases this
    have nlas : q.la ≠ s := by rintro h; have := Pq.la; rw [h, e] at this; cases this
    have nlss : q.ls ≠ s := by rintro h; have := Pq.ls; rw [h, e] at this; cases this
    have e1 : H1 s = some (.ins CS dx (shF x.d x.t x.n x.p)) := k1 _ _ (np nsp) e
    have P1 := Pq.kpL k1 c1 (np dq.1) (np dq.2)
    have T1 := T0.kpL k1 c1 (np ntq)
    refine ⟨q.tp, _, rfl, SqT.of P1.tp, rfl, _, _, rfl, _, _, rfl, _, _, rfl, _, _, rfl, rfl, ?_⟩
    have nt1 : ∀ {a : Addr}, a ≠ q.t → a ∉ [q.t] := fun h => by simpa using h
    have c1t : ChgM H1 [q.t] := fun a z => by rw [List.mem_singleton.mp z]; exact tab_mut T1
    have rtn : (forms q.R).Nodup := ok.nd
    have whole : (forms ((Rt.filter fun r => decide (r.1 ∉ q.added)) ++ q.struck.map (·.1))).Nodup := (List.Perm.map (fun r : Row3 => r.1) rv.pm).nodup_iff.mpr rtn
    refine ⟨fun σ' H' => ∃ v5, σ' = [some (.ref s), some (.ref q.d), some (.ref q.t), some (.ref q.la), some (.ref q.ls), v5, none] ∧ TabAt H' q.t (Rt.filter fun r => decide (r.1 ∉ q.added)) ∧ KpL [q.t] H1 H', ?_, ?_⟩
    · refine ⟨_, rfl, q.la, rfl, ⟨_, SqL.of P1.la⟩, for_list (xs := q.added.map fun g => V.str (S g)) (fun i σ H' => ∃ v5, σ = [some (.ref s), some (.ref q.d), some (.ref q.t), some (.ref q.la), some (.ref q.ls), v5, none] ∧ TabAt H' q.t (Rt.filter fun r => decide (r.1 ∉ q.added.take i)) ∧ KpL [q.t] H1 H') ⟨_, rfl, by rw [List.take_zero, List.filter_eq_self.mpr (fun a _ => by simp)]; exact T1, .refl⟩ (fun i σ H' _ p => by
        obtain ⟨_, _, _, k⟩ := p
        exact SqL.of (k _ _ (nt1 nlaq) P1.la)) ?_ ?_⟩
      · rintro i x0 σ H2 hx ⟨v5, rfl, T2, k2⟩
        rw [List.getElem?_map] at hx
        obtain ⟨g, hg, rfl⟩ := Option.map_eq_some_iff.mp hx
        have hi : i < q.added.length := (List.getElem?_eq_some_iff.mp hg).1
        have gin : g ∈ forms (Rt.filter fun r => decide (r.1 ∉ q.added.take i)) := by
          obtain ⟨r, hr, er⟩ := List.mem_map.mp (rv.ad g (List.mem_of_getElem? hg))
          refine List.mem_map.mpr ⟨r, List.mem_filter.mpr ⟨hr, decide_eq_true fun z => ?_⟩, er⟩
          rw [er] at z
          obtain ⟨j, hj, ej⟩ := List.mem_take_iff_getElem.mp z
          have hj2 : j < q.added.length := by omega
          have hge : q.added[i] = g := by
            have := List.getElem?_eq_getElem hi
            rw [hg] at this; exact (Option.some.inj this).symm
          exact List.pairwise_iff_getElem.mp rv.nd j i hj2 hi (by omega) (ej.trans hge.symm)
        obtain ⟨kvs, e2, is2, T3⟩ := T2.del gin
        refine ⟨_, rfl, _, rfl, q.t, kvs, kyS g, rfl, e2, rfl, is2, _, rfl, ?_, k2.in_ (by simp)⟩
        rw [← filter_step hg]
        exact T3
      · rintro σ H2 ⟨v5, rfl, T2, k2⟩
        rw [List.length_map, List.take_length] at T2
        exact ⟨_, rfl, T2, k2⟩
    rintro σ2 H2 ⟨v5, rfl, T2, k2⟩
    have P2 := P1.kpL k2 c1t (nt1 nlaq) (nt1 nlsq)
    have lq : (Rt.filter fun r => decide (r.1 ∉ q.added)).length + q.struck.length ≤ 100000 := by
      have h := rv.pm.length_eq
      rw [List.length_append, List.length_map] at h
      have := ok.len
      omega
    refine ⟨fun σ' H' => ∃ v5 v6, σ' = [some (.ref s), some (.ref q.d), some (.ref q.t), some (.ref q.la), some (.ref q.ls), v5, v6] ∧ TabAt H' q.t q.R ∧ KpL [q.t] H1 H', ?_, ?_⟩
    · refine ⟨_, rfl, q.ls, rfl, ⟨_, SqL.of P2.ls⟩, for_list (xs := q.struck.map fun x => V.ref x.2.1) (fun i σ H' => ∃ v5 v6, σ = [some (.ref s), some (.ref q.d), some (.ref q.t), some (.ref q.la), some (.ref q.ls), v5, v6] ∧ TabAt H' q.t ((Rt.filter fun r => decide (r.1 ∉ q.added)) ++ (q.struck.take i).map (·.1)) ∧ KpL [q.t] H2 H') ⟨_, _, rfl, by rw [List.take_zero, List.map_nil, List.append_nil]; exact T2, .refl⟩ (fun i σ H' _ p => by
        obtain ⟨_, _, _, _, k⟩ := p
        exact SqL.of (k _ _ (nt1 nlsq) P2.ls)) ?_ ?_⟩
      · rintro i x0 σ H3 hx ⟨w5, w6, rfl, T3, k3⟩
        rw [List.getElem?_map] at hx
        obtain ⟨y, hy, rfl⟩ := Option.map_eq_some_iff.mp hx
        have hi : i < q.struck.length := (List.getElem?_eq_some_iff.mp hy).1
        have c2t : ChgM H2 [q.t] := fun a z => by rw [List.mem_singleton.mp z]; exact tab_mut T2
        obtain ⟨y1, y2⟩ := P2.pr y (List.mem_of_getElem? hy)
        have y1' := kept k3 c2t y1 mut_tup
        have y2' := kept k3 c2t y2 mut_tup
        have nin : y.1.1 ∉ forms ((Rt.filter fun r => decide (r.1 ∉ q.added)) ++ (q.struck.take i).map (·.1)) := fun z => by
          rw [forms_app] at z whole
          have esp : q.struck.map (·.1) = (q.struck.take i).map (·.1) ++ (y.1 :: (q.struck.drop (i + 1)).map (·.1)) := by
            have hye : q.struck[i] = y := by
              have := List.getElem?_eq_getElem hi
              rw [hy] at this; exact (Option.some.inj this).symm
            have h := congrArg (List.map fun x : Row3 × Addr × Addr => x.1) (List.take_append_drop i q.struck)
            rw [List.drop_eq_getElem_cons hi, hye, List.map_append, List.map_cons] at h
            exact h.symm
          rw [esp, forms_app, ← List.append_assoc, List.nodup_append] at whole
          exact whole.2.2 _ z _ (List.mem_cons_self ..) rfl
        obtain ⟨kvs, e3, l3, T4⟩ := T3.put nin y2'
        refine ⟨y.2.1, _, rfl, SqT.of y1', rfl, _, _, rfl, _, _, rfl, rfl, ?_⟩
        refine ⟨_, rfl, _, rfl, _, rfl, q.t, _, rfl, DPut.k (k := kyS y.1.1) e3 ?_, _, _, rfl, ?_, k3.in_ (by simp)⟩
        · rw [l3, List.length_append, List.length_map, List.length_take, sizeLine_eq]; omega
        · rw [List.take_add_one, hy]
          show TabAt _ q.t (_ ++ (q.struck.take i ++ [y]).map (·.1))
          rw [List.map_append, ← List.append_assoc]
          exact T4
      · rintro σ H3 ⟨w5, w6, rfl, T3, k3⟩
        rw [List.length_map, List.take_length] at T3
        exact ⟨_, _, rfl, T3.perm rv.pm, k2.trans k3⟩
    rintro σ3 H3 ⟨v5', v6, rfl, T3, k3⟩
    have e3 : H3 s = some (.ins CS dx (shF x.d x.t x.n x.p)) := k3 _ _ (nt1 (Ne.symm ntqs)) e1
    refine ⟨_, rfl, _, rfl, s, CS, dx, _, rfl, e3, Z.cl, Z.n1, by show 4 < 1000; decide, ?_⟩
    refine ⟨_, rfl, _, rfl, s, CS, dx, _, rfl, upd_same, Z.cl, Z.n2, by show 4 < 1000; decide, ?_⟩
    rw [upd_upd]
    have k4 : KpL [s] H3 (upd H3 s (.ins CS dx (shF q.d q.t x.n x.p))) := .upd (by simp)
    have c3 : ChgM H3 [s] := fun a z => by rw [List.mem_singleton.mp z]; exact ⟨_, e3, .inr (.inr ⟨_, _, _, _, _, _, rfl⟩)⟩
    have ns : ∀ {a : Addr}, a ≠ s → a ∉ [s] := fun h => by simpa using h
    have kk : KpL [s, q.t, x.p] H (upd H3 s (.ins CS dx (shF q.d q.t x.n x.p))) := ((k1.mono (by intro a z; simp at z; simp [z])).trans (k3.mono (by intro a z; simp at z; simp [z]))).trans (k4.mono (by intro a z; simp at z; simp [z]))
    have cc : ChgM H [s, q.t, x.p] := fun a z => by
      simp only [List.mem_cons, List.mem_nil_iff, or_false] at z
      rcases z with rfl | rfl | rfl
      · exact ⟨_, e, .inr (.inr ⟨_, _, _, _, _, _, rfl⟩)⟩
      · exact tab_mut T0
      · exact ⟨_, hp, .inl ⟨_, rfl⟩⟩
    refine fin _ ⟨⟨dx, upd_same⟩, Pq.doors.kpL kk cc, T3.kpL k4 c3 (ns ntqs), ok, ?_, stk2.kpL kk cc (fun q' hq' => ?_) (fun q' hq' => ?_), fun q' hq' => S0.dis q' (by rw [est]; exact List.mem_cons_of_mem _ hq')⟩ (kk.mono fun a z => ?_)
    · show (upd H3 s _) x.p = some (.lst (rest.reverse.map fun q => V.ref q.tp))
      rw [upd_ne (Ne.symm nsp), k3 _ _ (nt1 (Ne.symm ntq)) (by rw [z1, upd_same]), exs]
    · have hq2 : q' ∈ x.st := by rw [est]; exact List.mem_cons_of_mem _ hq'
      have ph := S0.stk.pst q' hq2
      have dq' := S0.dis q' hq2
      refine ⟨fun z => ?_, fun z => ?_⟩
      · simp only [List.mem_cons, List.mem_nil_iff, or_false] at z
        rcases z with z | z | z
        · have := ph.la; rw [z, e] at this; cases this
        · have := ph.la; rw [z, etq] at this; cases this
        · exact dq'.1 z
      · simp only [List.mem_cons, List.mem_nil_iff, or_false] at z
        rcases z with z | z | z
        · have := ph.ls; rw [z, e] at this; cases this
        · have := ph.ls; rw [z, etq] at this; cases this
        · exact dq'.2 z
    · obtain ⟨kvs, ek⟩ := stk2.tabk ⟨_, etq⟩ q' hq'
      by_cases h : q'.t = q.t
      · exact .inl h
      · refine .inr fun z => ?_
        simp only [List.mem_cons, List.mem_nil_iff, or_false] at z
        rcases z with z | z | z
        · rw [z, e] at ek; cases ek
        · exact h z
        · rw [z, hp] at ek; cases ek
    · simp only [List.mem_cons, List.mem_nil_iff, or_false] at z
      rcases z with rfl | rfl | rfl
      · exact own_s
      · exact (own_st hq).2.2
      · exact own_p
end
end Pd

set_option maxHeartbeats 4000000
namespace Pd
open PySem PySem.Spec PyProof.Rows L2 SX
/-! ### the law's undo -/
def rwData (sts : List Stp) : PyData := .tuple (sts.map stpData)
def prData (r : Row2) : PyData := .tuple [.str (S r.1), .str (S r.2)]
def lpData (p : Lp) : PyData := .tuple [.list (p.rws.map rwData), .list (p.R.map prData)]
section
variable {K : PySem.W.Frag} {b : Nat} {H : Hp}
theorem rwB_dp : ∀ {rs : List Addr} {rws : List (List Stp)}, RwB K b H rs rws → DpAll K H (rs.map V.ref) (rws.map rwData)
  | _, _, .nil => .nil
  | _, _, .cons h l t => by
    obtain ⟨ps, e, a⟩ := h.row
    exact .cons (.tup e (al_dp a)) (rwB_dp t)
theorem pr_dp : ∀ {as : List Addr} {R : List Row2}, PR H as R → DpAll K H (as.map V.ref) (R.map prData)
  | _, _, .nil => .nil
  | _, _, .cons h t => .cons (.tup (SqT.of h) (.cons (.str _) (.cons (.str _) .nil))) (pr_dp t)
theorem lp_dp {p : Lp} (h : LpAt K b H p) : Dp K H (.ref p.tp) (lpData p) := by
  obtain ⟨as, e, pr⟩ := h.rl
  exact .tup (SqT.of h.tp) (.cons (.lst (SqL.of h.four.1) (rwB_dp h.four.2.1)) (.cons (.lst (SqL.of e) (pr_dp pr)) .nil))
theorem lps_dp : ∀ {ps : List Lp}, (∀ p ∈ ps, LpAt K b H p) → DpAll K H (ps.map fun p => V.ref p.tp) (ps.map lpData)
  | [], _ => .nil
  | p :: ps, h => .cons (lp_dp (h p (List.mem_cons_self ..))) (lps_dp fun q z => h q (List.mem_cons_of_mem _ z))
end
theorem all_shape {n : Nat} : ∀ {ds : List PyData}, (∀ d ∈ ds, d.canLay0 = true ∧ d.depth ≤ n) → PyData.canLayAll0 ds = true ∧ PyData.depthAll ds ≤ n
  | [], _ => ⟨rfl, Nat.zero_le _⟩
  | d :: ds, h => by
    obtain ⟨h1, h2⟩ := h d (List.mem_cons_self ..)
    obtain ⟨h3, h4⟩ := all_shape (ds := ds) fun e z => h e (List.mem_cons_of_mem _ z)
    refine ⟨?_, ?_⟩
    · simp only [PyData.canLayAll0, h1, h3, Bool.and_self]
    · simp only [PyData.depthAll]; omega
theorem tup_shape {n : Nat} {ds : List PyData} (h : ∀ d ∈ ds, d.canLay0 = true ∧ d.depth ≤ n) : (PyData.tuple ds).canLay0 = true ∧ (PyData.tuple ds).depth ≤ n + 1 := by
  obtain ⟨h1, h2⟩ := all_shape h
  simp only [PyData.canLay0, PyData.depth]
  exact ⟨h1, by omega⟩
theorem lst_shape {n : Nat} {ds : List PyData} (h : ∀ d ∈ ds, d.canLay0 = true ∧ d.depth ≤ n) : (PyData.list ds).canLay0 = true ∧ (PyData.list ds).depth ≤ n + 1 := by
  obtain ⟨h1, h2⟩ := all_shape h
  simp only [PyData.canLay0, PyData.depth]
  exact ⟨h1, by omega⟩
theorem row_shape2 {sts : List Stp} (ok : ∀ st ∈ sts, st.ok) : (rwData sts).canLay0 = true ∧ (rwData sts).depth ≤ 2 := tup_shape fun d hd => by
  obtain ⟨st, h, rfl⟩ := List.mem_map.mp hd
  have := stp_shape (ok st h)
  exact ⟨this.1, by omega⟩
theorem pr_shape {r : Row2} (h : Good r.1 ∧ Good r.2) : (prData r).canLay0 = true ∧ (prData r).depth ≤ 2 := tup_shape (n := 1) fun d hd => by
  simp only [List.mem_cons, List.mem_nil_iff, or_false] at hd
  rcases hd with rfl | rfl
  · exact ⟨by simp only [PyData.canLay0]; exact strOk_CH h.1.1, by simp [PyData.depth]⟩
  · exact ⟨by simp only [PyData.canLay0]; exact strOk_CH h.2.1, by simp [PyData.depth]⟩
theorem rwB_ok {K : PySem.W.Frag} {b : Nat} {H : Hp} : ∀ {rs : List Addr} {rws : List (List Stp)}, RwB K b H rs rws → ∀ sts ∈ rws, ∀ st ∈ sts, st.ok
  | _, _, .nil, _, h => nomatch h
  | _, _, .cons h l t, sts, hs => by
    rcases List.mem_cons.mp hs with rfl | hs
    · exact h.ok
    · exact rwB_ok t sts hs
theorem lp_shape {K : PySem.W.Frag} {b : Nat} {H : Hp} {p : Lp} (h : LpAt K b H p) (g : ∀ r ∈ p.R, Good r.1 ∧ Good r.2) : (lpData p).canLay0 = true ∧ (lpData p).depth ≤ 4 := tup_shape (n := 3) fun d hd => by
  simp only [List.mem_cons, List.mem_nil_iff, or_false] at hd
  rcases hd with rfl | rfl
  · exact lst_shape (n := 2) fun d hd => by
      obtain ⟨sts, hs, rfl⟩ := List.mem_map.mp hd
      exact row_shape2 (rwB_ok h.four.2.1 sts hs)
  · exact lst_shape (n := 2) fun d hd => by
      obtain ⟨r, hr, rfl⟩ := List.mem_map.mp hd
      exact pr_shape (g r hr)
def Ls.undone (y : Ls) (p : Lp) (rest : List Lp) : Ls := { y with four := p.four, rs := p.rs, rws := p.rws, rl := p.rl, R := p.R, ps := rest }
theorem lown_undone {st : Addr} {y : Ls} {p : Lp} {rest : List Lp} (e : y.ps = p :: rest) {a : Addr} (h : a ∈ lown st (y.undone p rest)) : a ∈ lown st y := by
  have h : a ∈ st :: y.pl :: p.four :: p.rl :: rest.flatMap fun p => [p.four, p.rl] := h
  have g : a ∈ lown st y ↔ a ∈ st :: y.pl :: y.four :: y.rl :: ((p :: rest).flatMap fun p => [p.four, p.rl]) := by rw [← e]; rfl
  rw [g, List.flatMap_cons]
  simp only [List.mem_cons, List.mem_append, List.mem_nil_iff, or_false] at h ⊢
  rcases h with h | h | h | h | h
  · exact .inl h
  · exact .inr (.inl h)
  · exact .inr (.inr (.inr (.inr (.inl (.inl h)))))
  · exact .inr (.inr (.inr (.inr (.inl (.inr h)))))
  · exact .inr (.inr (.inr (.inr (.inr h))))
def spLUndo (K : PySem.W.Frag) : Sp := fun vs H Q _ => ∃ b st y, vs = [.ref st] ∧ LsAt K b H st y ∧ (∀ p ∈ y.ps, ∀ r ∈ p.R, Good r.1 ∧ Good r.2) ∧
  (y.ps = [] → ∀ H', Ext H H' → Q (.bl false) H') ∧ ∀ p rest H', y.ps = p :: rest → LsAt K b H' st (y.undone p rest) → KpL [st, y.pl] H H' → Q (.bl true) H'
section
variable {P : Program} {w : World} {K : PySem.W.Frag} {mg : Str → Option Value} {base : Heap}
theorem ok_lundo {f : Addr} {fd : FuncData} (F : Fun K "_law_undo" "_law_undo" sLawUndo f fd) : FnOk P w K mg base CX0 1 f fd ["state"] (spLUndo K) := by
  refine F.ok scLawUndo (fun vs H Q E h => ?_) (fun cdv A outer s H vs Q E hr h => ?_)
  · obtain ⟨b, st, y, rfl, _⟩ := h
    rfl
  · obtain ⟨n, st, y, rfl, L0, hg, qn, qs⟩ := h
    have nd := scLawUndo.nd
    refine ⟨_, pss_cons (ps_if (pt_cmpR (op_eqDK rfl hr.units) (pe_ix ix_list (pv 0) pe_int (fun _ _ => rfl)) (pe_lst pa_nil) (nomark _)) (pss_one (ps_ret pe_bl)) pss_nil)
      (pss_cons (ps_set (i := 1) nd rfl (Or.inl rfl) (pe_bm0 PySem.F.plainAttrs_list PySem.F.slot_list_pop PySem.F.type_list_pop mt_pop (pe_ix ix_list (pv 0) pe_int (fun _ _ => rfl))))
      (pss_cons (ps_asg (pe_ix (ix_tupK (K := K) rfl) (pv 1) pe_int (fun _ _ => rfl)) (pg_sub (pv 0) pe_int set_list))
      (pss_cons (ps_asg (pe_ix (ix_tupK (K := K) rfl) (pv 1) pe_int (fun _ _ => rfl)) (pg_sub (pv 0) pe_int set_list))
      (pss_one (ps_ret pe_bl))))), ?_⟩
    refine ⟨_, rfl, st, _, 2, _, rfl, rfl, SqL.of L0.s0, rfl, by show 0 ≤ sizeLine; decide, fun e he => ?_⟩
    obtain ⟨H1, z1⟩ : ∃ H', H' = upd H e (.lst []) := ⟨_, rfl⟩
    rw [← z1]
    have k1 : Ext H H1 := by rw [z1]; exact Ext.refl.new he
    have L1 := L0.ext k1
    have sh : SeqAt.shaped (.list (y.ps.reverse.map lpData)) = true := by
      obtain ⟨a, b⟩ := lst_shape (n := 4) (ds := y.ps.reverse.map lpData) fun d hd => by
        obtain ⟨p, hp, rfl⟩ := List.mem_map.mp hd
        have hp := List.mem_reverse.mp hp
        exact lp_shape (L1.ps p hp) (hg p hp)
      unfold SeqAt.shaped
      rw [a, Bool.true_and]
      exact decide_eq_true (by omega)
    refine ⟨.list (y.ps.reverse.map lpData), .list [], .lst (SqL.of L1.p0) (lps_dp fun p hp => L1.ps p (List.mem_reverse.mp hp)), .lst (SqL.of (by rw [z1, upd_same])) .nil, sh, by decide +kernel, ?_⟩
    rw [eqv_nil]
    refine ⟨_, rfl, ?_⟩
    cases ep : y.ps with
    | nil => exact iteT (qn ep _ k1)
    | cons p rest =>
      have ne : ((p :: rest).reverse.map lpData).isEmpty = false := by
        rw [List.reverse_cons, List.map_append]
        cases (rest.reverse.map lpData) <;> rfl
      rw [ne]
      refine iteF ?_
      have hp : p ∈ y.ps := by rw [ep]; exact List.mem_cons_self ..
      have hpl := L1.p0
      rw [ep, List.reverse_cons, List.map_append] at hpl
      obtain ⟨xs, exs⟩ : ∃ xs, xs = rest.reverse.map fun p => V.ref p.tp := ⟨_, rfl⟩
      rw [← exs] at hpl
      replace hpl : H1 y.pl = some (.lst (xs ++ [V.ref p.tp])) := hpl
      refine ⟨_, rfl, st, _, 2, _, rfl, rfl, SqL.of L1.s0, rfl, .inl ⟨rfl, _, SqL.of hpl⟩, y.pl, _, .ref p.tp, rfl, rfl, hpl, by simp, ?_⟩
      rw [List.dropLast_concat]
      obtain ⟨H2, z2⟩ : ∃ H', H' = upd H1 y.pl (.lst xs) := ⟨_, rfl⟩
      rw [← z2]
      have k2 : KpL [y.pl] H1 H2 := by rw [z2]; exact .upd (by simp)
      have c1 := chg_lst hpl
      have np : ∀ {a : Addr}, a ≠ y.pl → a ∉ [y.pl] := fun h => by simpa using h
      have nst := L0.dis.1
      have s2 : H2 st = some (.lst [.ref y.four, .ref y.rl, .ref y.pl]) := k2 _ _ (np nst) L1.s0
      have t2 : H2 p.tp = some (.tup [.ref p.four, .ref p.rl]) := kept k2 c1 (L1.ps p hp).tp mut_tup
      refine ⟨_, rfl, p.tp, _, 0, _, rfl, rfl, SqT.of t2, rfl, _, rfl, st, _, 0, 0, rfl, rfl, s2, rfl, ?_⟩
      obtain ⟨H3, z3⟩ : ∃ H', H' = upd H2 st (.lst [.ref p.four, .ref y.rl, .ref y.pl]) := ⟨_, rfl⟩
      have k3 : KpL [st] H2 H3 := by rw [z3]; exact .upd (by simp)
      have c2 := chg_lst s2
      have s3 : H3 st = some (.lst [.ref p.four, .ref y.rl, .ref y.pl]) := by rw [z3, upd_same]
      have t3 : H3 p.tp = some (.tup [.ref p.four, .ref p.rl]) := kept k3 c2 t2 mut_tup
      show tSeq _ _ _ _ _
      rw [show upd H2 st (.lst ([V.ref y.four, .ref y.rl, .ref y.pl].set 0 (.ref p.four))) = H3 from z3.symm]
      refine ⟨_, rfl, p.tp, _, 1, _, rfl, rfl, SqT.of t3, rfl, _, rfl, st, _, 1, 1, rfl, rfl, s3, rfl, ?_⟩
      obtain ⟨H4, z4⟩ : ∃ H', H' = upd H3 st (.lst [.ref p.four, .ref p.rl, .ref y.pl]) := ⟨_, rfl⟩
      have k4 : KpL [st] H3 H4 := by rw [z4]; exact .upd (by simp)
      show Q (.bl true) (upd H3 st (.lst [.ref p.four, .ref p.rl, .ref y.pl]))
      rw [← z4]
      have k14 : KpL [st, y.pl] H1 H4 := ((k2.mono (by intro a z; simp at z; simp [z])).trans (k3.mono (by intro a z; simp at z; simp [z]))).trans (k4.mono (by intro a z; simp at z; simp [z]))
      have c14 : ChgM H1 [st, y.pl] := fun a z => L1.chg a (by
        simp only [List.mem_cons, List.mem_nil_iff, or_false] at z
        rcases z with rfl | rfl
        · exact List.mem_cons_self ..
        · exact List.mem_cons_of_mem _ (List.mem_cons_self ..))
      have nj : ∀ a ∈ lro y, a ∉ [st, y.pl] := fun a z => by
        have := L0.dis.2 a z
        simp; exact this
      have ro : ∀ q ∈ y.ps, ∀ a ∈ [q.four, q.rl], a ∈ lro y := fun q hq a ha => List.mem_cons_of_mem _ (List.mem_cons_of_mem _ (List.mem_flatMap.mpr ⟨q, hq, ha⟩))
      have at4 : ∀ q ∈ y.ps, LpAt K n H4 q := fun q hq => by
        obtain ⟨a1, a2, a3⟩ := L1.ps q hq
        exact ⟨kept k14 c14 a1 mut_tup, a2.kpL k14 c14 (nj _ (ro q hq _ (by simp))), a3.kpL k14 c14 (nj _ (ro q hq _ (by simp)))⟩
      have nsp : ∀ {a : Addr}, a ≠ st → a ∉ [st] := fun h => by simpa using h
      refine qs p rest H4 ep ⟨by rw [z4, upd_same]; rfl, (at4 p hp).four, (at4 p hp).rl, ?_, fun q hq => at4 q (by rw [ep]; exact List.mem_cons_of_mem _ hq), ⟨nst, fun a ha => ?_⟩, hg p hp⟩ ((KpL.ext k1).trans k14)
      · show H4 y.pl = some (.lst (rest.reverse.map fun p => V.ref p.tp))
        rw [k4 _ _ (nsp (Ne.symm nst)) (k3 _ _ (nsp (Ne.symm nst)) (by rw [z2, upd_same])), exs]
      · have ha : a ∈ p.four :: p.rl :: rest.flatMap fun p => [p.four, p.rl] := ha
        refine L0.dis.2 a ?_
        simp only [List.mem_cons] at ha
        rcases ha with h | h | h
        · exact ro p hp a (by simp [h])
        · exact ro p hp a (by simp [h])
        · obtain ⟨q, hq, hh⟩ := List.mem_flatMap.mp h
          exact ro q (by rw [ep]; exact List.mem_cons_of_mem _ hq) a hh
end
end Pd

set_option maxHeartbeats 2000000
namespace Pd
open PySem PySem.Spec PyProof.Rows L2
/-! ### a method of a value of its own kind, its arguments with n tokens out -/
section
variable {X : Cx} {n : Nat} {o e : Expr} {es : List Expr} {to : TE} {t : TA} {T id : String} {name : Str} {r : V → List V → Hp → VK → Prop} {apos cpos : Pos}
theorem pen_bm (pa : PlainAttrs T) (slot : Slot T name id) (hty : typeOf (.builtin id) = pure (.type "method_descriptor")) (hm : MtR X id r) (ho : PEn n X o to) (ha : PAn n X (e :: es) t)
    (hbase : attributeBase o name X.env (eval o X.env) = eval o X.env := by rfl)
    (hfew : ((backTo cpos (starEach (e :: es) X.env)).all (fun x => !x.1) && (backToKw cpos (keywordEach [] X.env)).all (fun x => x.1.isSome)
      && decide ((e :: es).length + ([] : List Keyword).length + (if ([] : List Keyword).isEmpty then 0 else 1) < 30)) = true := by rfl)
    (hline : (apos.endLine == cpos.line) = true := by rfl) (hs : starEach (e :: es) X.env = (false, eval e X.env) :: starEach es X.env := by rfl) (hplain : (backTo cpos (starEach es X.env)).any (·.1) = false := by rfl) :
    PEn n X (.Call (.Attribute o name apos) (e :: es) [] cpos) (tBM X.K T r to t) := by
  constructor
  intro pins s σ H Q l I h
  refine wpAny_Call_method_late hbase hfew hline rfl (thk l (ho.run pins s σ H _ l I h) ?_)
  rintro v s1 l1 ⟨x, H1, I1, r1, ty, q1⟩
  obtain ⟨h1, h2⟩ := tyV_is I1 r1 ty
  refine ⟨T, id, pa, slot, hty, h1, h2, ?_⟩
  have hA := ha.run cpos pins s1 σ H1 _ l1 I1 q1
  rw [hs] at hA ⊢
  refine Calls.callWith_builtin (by show (false || (backTo cpos (starEach es X.env)).any (·.1)) = false; rw [hplain] <;> rfl) (Calls.evalArgs_plain ?_)
  exact thn hA fun us s2 ⟨vs, H2, I2, r2, q2⟩ => hm pins s2 σ H2 x vs v us Q I2 r1 r2 q2
end
end Pd

set_option maxHeartbeats 4000000
namespace Pd
open PySem PySem.Spec PyProof.Rows L2 SX
/-! ### the law's put_all -/
def lput1 (f : List Nat → List Nat) (z : List Row2 × List Bool) (l : List Nat) : List Row2 × List Bool := (lputR f z.1 l, z.2 ++ [decide (f l ∉ z.1.map (·.1))])
def lputs (f : List Nat → List Nat) (z : List Row2 × List Bool) (ts : List (List Nat)) : List Row2 × List Bool := ts.foldl (lput1 f) z
theorem lputs_take {f : List Nat → List Nat} {z : List Row2 × List Bool} {ts : List (List Nat)} {i : Nat} {l : List Nat} (h : ts[i]? = some l) : lputs f z (ts.take (i + 1)) = lput1 f (lputs f z (ts.take i)) l := by
  unfold lputs
  rw [List.take_add_one, h, List.foldl_append]; rfl
theorem lputR_len {f : List Nat → List Nat} {R : List Row2} {l : List Nat} : (lputR f R l).length ≤ R.length + 1 := by
  unfold lputR
  split
  · omega
  · rw [List.length_append]; exact Nat.le_refl _
theorem lputs_len {f : List Nat → List Nat} : ∀ {ts : List (List Nat)} {z : List Row2 × List Bool}, (lputs f z ts).1.length ≤ z.1.length + ts.length ∧ (lputs f z ts).2.length = z.2.length + ts.length
  | [], z => ⟨Nat.le_refl _, rfl⟩
  | l :: ts, z => by
    obtain ⟨h1, h2⟩ := lputs_len (f := f) (ts := ts) (z := lput1 f z l)
    have := lputR_len (f := f) (R := z.1) (l := l)
    refine ⟨?_, ?_⟩
    · show (lputs f (lput1 f z l) ts).1.length ≤ _
      have h3 : (lput1 f z l).1.length ≤ z.1.length + 1 := this
      show _ ≤ _ + (ts.length + 1)
      omega
    · show (lputs f (lput1 f z l) ts).2.length = _
      rw [h2]
      show (z.2 ++ [_]).length + _ = _ + (ts.length + 1)
      rw [List.length_append]; show _ + 1 + _ = _; omega
theorem prs_puts {f : List Nat → List Nat} : ∀ {ts : List (List Nat)} {z : Pz}, prs (puts f z ts).R = (lputs f (prs z.R, z.ans) ts).1 ∧ (puts f z ts).ans = (lputs f (prs z.R, z.ans) ts).2
  | [], z => ⟨rfl, rfl⟩
  | l :: ts, z => by
    have e : (prs (put1 f z l).R, (put1 f z l).ans) = lput1 f (prs z.R, z.ans) l := by
      unfold lput1 put1 lputR
      rw [prs_forms]
      by_cases h : f l ∈ forms z.R
      · simp [h]
      · simp [h, prs]
    have := prs_puts (f := f) (ts := ts) (z := put1 f z l)
    rw [e] at this
    exact this
def ansV (bs : List Bool) : List V := bs.map V.bl
section
variable {K : PySem.W.Frag} {b : Nat} {H H' : Hp} {st : Addr} {y : Ls}
theorem LsAt.popped (h : LsAt K b H st y) {p : Lp} {rest : List Lp} (e : y.ps = p :: rest) : LsAt K b (upd H y.pl (.lst (rest.reverse.map fun p => V.ref p.tp))) st { y with ps := rest } := by
  have k : KpL [y.pl] H (upd H y.pl (.lst (rest.reverse.map fun p => V.ref p.tp))) := .upd (by simp)
  have c := chg_lst h.p0
  have np : ∀ {a : Addr}, a ≠ y.pl → a ∉ [y.pl] := fun h => by simpa using h
  have ro : ∀ q ∈ y.ps, ∀ a ∈ [q.four, q.rl], a ∈ lro y := fun q hq a ha => List.mem_cons_of_mem _ (List.mem_cons_of_mem _ (List.mem_flatMap.mpr ⟨q, hq, ha⟩))
  refine ⟨k _ _ (np h.dis.1) h.s0, h.four.kpL k c (np (h.dis.2 _ (List.mem_cons_self ..)).2), h.rl.kpL k c (np (h.dis.2 _ (List.mem_cons_of_mem _ (List.mem_cons_self ..))).2), upd_same, fun q hq => ?_, ⟨h.dis.1, fun a ha => h.dis.2 a ?_⟩, h.good⟩
  · have hq : q ∈ y.ps := by rw [e]; exact List.mem_cons_of_mem _ hq
    obtain ⟨a1, a2, a3⟩ := h.ps q hq
    exact ⟨kept k c a1 mut_tup, a2.kpL k c (np (h.dis.2 _ (ro q hq _ (by simp))).2), a3.kpL k c (np (h.dis.2 _ (ro q hq _ (by simp))).2)⟩
  · have ha : a ∈ y.four :: y.rl :: rest.flatMap fun p => [p.four, p.rl] := ha
    simp only [List.mem_cons] at ha
    rcases ha with h | h | h
    · rw [h]; exact List.mem_cons_self ..
    · rw [h]; exact List.mem_cons_of_mem _ (List.mem_cons_self ..)
    · obtain ⟨q, hq, hh⟩ := List.mem_flatMap.mp h
      exact ro q (by rw [e]; exact List.mem_cons_of_mem _ hq) a hh
end
def spLPutAll (K : PySem.W.Frag) (b : Nat) : Sp := fun vs H Q _ => ∃ st y a ts, vs = [.ref st, .ref a] ∧ LsAt K b H st y ∧ H a = some (.lst (txV ts)) ∧ (∀ t ∈ ts, Good t) ∧ ts.length ≤ 1000 ∧ y.R.length ≤ 90000 ∧ y.ps.length ≤ 90000 ∧ a ∉ [st, y.pl] ∧
  ∀ fl p rl H', LPast H y p rl → LsAt K b H' st { y with R := (lputs (mks (stp y 0)) (y.R, []) ts).1, rl := rl, ps := p :: y.ps } → KpL [st, y.pl] H H' → H fl = none → H' fl = some (.lst (ansV (lputs (mks (stp y 0)) (y.R, []) ts).2)) → Q (.ref fl) H'
section
variable {P : Program} {w : World} {K : PySem.W.Frag} {mg : Str → Option Value} {base : Heap}
end
end Pd

set_option maxHeartbeats 4000000
/-! ### pairs of an int and a text, no two with the same int -/
namespace SrtO
open PySem PyProof.Rows Srt
section
variable {prog : Program} {w : World} {A : Around} {E : Value → Shared → Prop} {s : Shared}
def IsRow (h : Heap) (v : Value) (x : Int) : Prop := ∃ a o t y u n, v = .ref a ∧ h.get? a = some o ∧ o.cls = .type "tuple" ∧ o.data = .seq #[.int x t, .str y u] n
theorem IsRow.keeps {h h' : Heap} {v : Value} {x : Int} (p : IsRow h v x) (k : ∀ b o, h.get? b = some o → o.cls = .type "tuple" → h'.get? b = some o) : IsRow h' v x := by
  obtain ⟨a, o, t, y, u, n, e, ho, hc, hd⟩ := p
  exact ⟨a, o, t, y, u, n, e, k _ _ ho hc, hc, hd⟩
theorem firsts_row {h : Heap} : ∀ {vs : List Value}, (∀ v ∈ vs, ∃ x, IsRow h v x) → ∃ fs : List Value, PySem.W.KatTups h vs fs ∧ fs.length = vs.length ∧ ∀ f ∈ fs, ∃ x t, f = Value.int x t
  | [], _ => ⟨[], PySem.W.KatTups.nil, rfl, fun _ hm => by simp at hm⟩
  | v :: vs, hp => by
    obtain ⟨fs, h1, h2, h3⟩ := firsts_row (vs := vs) fun v' hm => hp v' (List.mem_cons_of_mem _ hm)
    obtain ⟨x, a, o, t, y, u, n, e, ho, hc, hd⟩ := hp v (List.mem_cons_self ..)
    subst e
    refine ⟨.int x t :: fs, PySem.W.KatTups.cons ho hc hd rfl h1, by rw [List.length_cons, List.length_cons, h2], fun f hm => ?_⟩
    rcases List.mem_cons.mp hm with rfl | hm
    · exact ⟨x, t, rfl⟩
    · exact h3 f hm
theorem swo_fst (k : Value → Int) : Swo fun v u => decide (k v < k u) := by
  refine ⟨fun x y h => ?_, fun x y z h1 h2 => ?_⟩
  · have a := of_decide_eq_true h
    exact decide_eq_false (by omega)
  · have a := of_decide_eq_false h1
    have b := of_decide_eq_false h2
    exact decide_eq_false (by omega)
theorem row_cmp {vs : List Value} {k : Value → Int} (hp : ∀ v ∈ vs, IsRow s.heap v (k v)) (hu : ∀ v ∈ vs, ∀ u ∈ vs, k v = k u → v = u) : Cmp prog w A s (tuples' true) (fun p => p.1 ∈ vs) (lt2 fun v u => decide (k v < k u)) := by
  intro p q hm hm'
  have h1 := hp _ hm
  have h2 := hp _ hm'
  have h3 := hu _ hm _ hm'
  show wpAny (model prog w) A (keyLt' (tuples' true) p.1 q.1) (fun r s' => s' = s ∧ r = decide (k p.1 < k q.1)) (fun _ _ => False) s
  generalize k p.1 = x at h1 h3 ⊢
  generalize k q.1 = x' at h2 h3 ⊢
  obtain ⟨a, o, t, y, u, n, e, ho, hc, hd⟩ := h1
  obtain ⟨a', o', t', y', u', n', e', ho', hc', hd'⟩ := h2
  rw [e, e'] at h3
  rw [e, e']
  refine PySem.W.kat_lt ho hd ho' hd' ?_
  show PySem.W.KatLex prog w A true (decide (2 < 2)) _ [(.int x t, .int x' t'), (.str y u, .str y' u')] 0 s
  refine PySem.W.kat_cons (SeqAt.EqAt.int_int x t x' t' prog w _ _ ?_)
  refine PySem.W.kat_go (fun e1 => ?_) (fun e1 => ?_)
  · have ex : x = x' := by simpa using e1
    have ea := h3 ex
    injection ea with ea
    subst ea
    rw [ho] at ho'
    injection ho' with ho'
    subst ho'
    rw [hd] at hd'
    have ey : ((x = x' ∧ t = t') ∧ y = y' ∧ u = u') ∧ n = n' := by simpa using hd'
    obtain ⟨⟨_, rfl, rfl⟩, _⟩ := ey
    refine PySem.W.kat_yes (PySem.W.kat_cons (SeqAt.EqAt.str_str y u y u prog w _ _ ?_))
    refine PySem.W.kat_go (fun e2 => ?_) (fun e2 => ?_)
    · exact PySem.W.kat_yes (PySem.W.kat_nil ⟨rfl, by rw [ex]; exact (decide_eq_false (Int.lt_irrefl _)).symm⟩)
    · exact absurd e2 (by simp)
  · exact PySem.W.kat_no (oneLt_int ⟨rfl, rfl⟩)
theorem rows_sortable {a : Addr} {vs : List Value} {k : Value → Int} (h0 : 0 < vs.length) (hp : ∀ v ∈ vs, IsRow s.heap v (k v)) (hu : ∀ v ∈ vs, ∀ u ∈ vs, k v = k u → v = u) (ha : ∀ o, s.heap.get? a = some o → o.cls ≠ .type "tuple") : SortableO prog w A s a vs fun v u => decide (k v < k u) := by
  intro h' keep
  have hp' : ∀ v ∈ vs, IsRow h' v (k v) := fun v hm => (hp v hm).keeps fun b o e c => keep b o (fun z => by subst z; exact ha o e c) e
  obtain ⟨fs, h1, h2, h3⟩ := firsts_row fun v hm => ⟨_, hp' v hm⟩
  refine ⟨tuples' true, fun Q E hq => ?_, row_cmp hp' hu⟩
  refine PySem.W.kat_kind (T := .type "int") h1 (by omega) (fun f hm => ?_) (by rfl) ?_
  · obtain ⟨x, t, rfl⟩ := h3 f hm
    exact PySem.W.Looks.now
  · have e : (Value.type "int" != Value.type "tuple") = true := by first | decide +kernel | rfl | decide
    rw [e]
    exact hq
end
end SrtO
namespace Pd
open PySem PySem.Spec PyProof.Rows L2
/-- sorted(o.values()), the values pairs of an int and a text, no two alike in the int -/
def tSortVals (td : TE) : TE := fun σ H Q => td σ H fun x H1 => ∃ a kvs, ∃ k : V → Int, x = V.ref a ∧ H1 a = some (.dK kvs) ∧ (∀ v ∈ kvs.map (·.2), ∃ t y, v = V.ref t ∧ H1 t = some (.tup [.int (k v), .str y])) ∧ (∀ v ∈ kvs.map (·.2), ∀ u ∈ kvs.map (·.2), k v = k u → v = u) ∧
  ∀ ys p, ys.Pairwise (fun u v => k u ≤ k v) → ys.Perm (kvs.map (·.2)) → H1 p = none → Q (.ref p) (upd H1 p (.lst ys))
section
variable {X : Cx} {o : Expr} {p pos apos mpos : Pos} {td : TE}
theorem kv_vals {κ : Type} {kvs : List (κ × V)} {vs : List (κ × Value)} (r : KV kvs vs) : Vals (kvs.map (·.2)) (vs.map (·.2)) := by
  unfold KV at r
  induction r with
  | nil => exact .nil
  | cons r t ih => exact .cons r.2 ih
theorem pe_sortVals (hc : X.calm = true) (hg : Gl X "sorted") (hm : X.mg "sorted" = none) (hd : PE X o td) (hbase : attributeBase o "values" X.env (eval o X.env) = eval o X.env := by rfl) (hline : (apos.endLine == mpos.line) = true := by rfl)
    (hse : starEach [Expr.Call (.Attribute o "values" apos) [] [] mpos] X.env = [(false, eval (Expr.Call (.Attribute o "values" apos) [] [] mpos) X.env)] := by rfl) :
    PE X (.Call (.Name "sorted" p) [.Call (.Attribute o "values" apos) [] [] mpos] [] pos) (tSortVals td) := by
  refine ⟨fun pins s σ H Q I h => ?_⟩
  refine wpAny_Call_Name_kw (ld_blt I hg hm (u := .builtin "sorted") (by first | rfl | decide +kernel) ?_ (by first | decide +kernel | decide) (by first | decide +kernel | decide))
  rw [hse]
  refine PySem.callWith_builtin1 (wpAny_Call_method0_late hbase hline (thn (hd.run pins s σ H _ I h) fun v s1 ⟨x, H1, I1, r1, a, kvs, k, ex, ha, hv, hu, q⟩ => ?_))
  subst ex
  obtain rfl : v = Value.ref a := r1
  obtain ⟨hz, hsys, vs, rel, dof⟩ := dk_of I1.hok ha
  obtain ⟨ep, dat⟩ := dof.dictAt
  have dat' := dat
  obtain ⟨ob, es, ho, ex, hdat, hko, hpr, hnd⟩ := dat'
  refine ⟨"dict", "dict.values", PySem.F.plainAttrs_dict, PySem.F.slot_dict_values, PySem.F.type_dict_values, ⟨ob, ho, ex.1⟩, fun b e => ?_, Calls.callWith_builtin rfl (PySem.evalArgs_none ?_)⟩
  · cases e
    exact ⟨ob, ho, ex.2.1⟩
  refine call_meetsIn PySem.F.slot_dict_values ⟨ob, ho, ex.1⟩ PySem.F.entry_dict_values (PySem.F.args_dict_values_1 _) (meets_dict_values (mixKind X.prog X.w) a hsys) ⟨⟨vs, dof⟩, ?_⟩
  have k1 : ∀ b u, s1.heap.get? b = some u → (s1.heap.push { cls := .type "dict_values", data := .fields #[.ref a] }).get? b = some u := fun b u e => Heap.get?_push_of_some _ e
  have dat1 : (s1.heap.push { cls := .type "dict_values", data := .fields #[.ref a] }).DictAt (mixKind X.prog X.w) a vs ep := dat.keep k1
  have rv := kv_vals rel
  have lv : vs.length ≤ sizeLine := by rw [← KV.length rel]; exact hz
  refine Calls.call_function_entry PyProof.Rows.kind_sorted PyProof.Rows.plain_sorted PyProof.Rows.entry_sorted (PyProof.Rows.args_sorted1 _) ?_
  unfold Builtin.«sorted»
  refine wpAny_bind (m := checkCount "sorted" 1 1 _) (wpAny_pure (wpAny_bind (PySem.W.kdu_collect (A := X.A.in1) (PySem.W.kdl_values (knd := mixKind X.prog X.w) (kvs := vs) (ep := ep) (r := s1.heap.objs.size) (d := a)) (I1.ok.hd hc) ⟨⟨_, Heap.get?_push_size _ rfl, rfl, rfl⟩, dat1⟩ lv fun h' tk acc hk hacc => ?_)))
  have hal : acc.toList = vs.map (·.2) := by
    refine List.ext_getElem? fun i => ?_
    by_cases hi : i < acc.size
    · have e1 : acc[i]? = some acc[i] := Array.getElem?_eq_getElem hi
      obtain ⟨k', e2⟩ := hacc.2 i _ e1
      rw [Array.getElem?_toList, e1, List.getElem?_map, e2]; rfl
    · have hs := hacc.1
      rw [List.getElem?_eq_none (by rw [Array.length_toList]; omega), List.getElem?_eq_none (by rw [List.length_map]; omega)]
  have k2 : ∀ b u, s1.heap.get? b = some u → h'.get? b = some u := fun b u e => hk b u (k1 b u e)
  have I2 : Inv X pins σ H1 { s1 with heap := h', toks := tk } := I1.kept k2
  obtain ⟨e1, e2⟩ := refs_back rv fun x m => by
    obtain ⟨t, y, e, _⟩ := hv x m
    exact ⟨t, e⟩
  have mem : ∀ v ∈ acc.toList, ∃ t, v = Value.ref t ∧ V.ref t ∈ kvs.map (·.2) := fun v hm => by
    rw [hal] at hm
    obtain ⟨t, rfl⟩ := e2 v hm
    exact ⟨t, rfl, by rw [e1]; exact List.mem_map.mpr ⟨_, hm, rfl⟩⟩
  have hlA : acc.toList.length ≤ sizeLine := by rw [hal, List.length_map]; exact lv
  have hp : ∀ v ∈ acc.toList, SrtO.IsRow h' v (k (backV v)) := fun v hm => by
    obtain ⟨t, rfl, hm2⟩ := mem v hm
    obtain ⟨t', y, e, ht⟩ := hv _ hm2
    cases e
    obtain ⟨_, its2, r2, o, ho, hc', n, hd'⟩ := I2.hok _ _ ht
    obtain ⟨u1, u2, rfl, ri, rj⟩ := vals2 r2
    obtain ⟨t1, rfl⟩ := ri
    obtain ⟨t2, rfl⟩ := rj
    exact ⟨t, o, t1, y, t2, n, rfl, ho, hc', hd'⟩
  have hu' : ∀ v ∈ acc.toList, ∀ u ∈ acc.toList, k (backV v) = k (backV u) → v = u := fun v hm u hm' e => by
    obtain ⟨t, rfl, hm2⟩ := mem v hm
    obtain ⟨t', rfl, hm3⟩ := mem u hm'
    have := hu _ hm2 _ hm3 e
    injection this with this
    rw [this]
  refine wpAny_bind (wpAny_newList ?_ hlA)
  have hoL : (h'.push (seqObj "list" acc.toList.toArray 0)).get? h'.objs.size = some (seqObj "list" acc.toList.toArray 0) := Heap.get?_push_size _ rfl
  show wpAny _ _ _ _ _ { s1 with heap := h'.push (seqObj "list" acc.toList.toArray 0), toks := tk }
  refine wpAny_bind (wpAny_holding (wpAny_call_entry PyProof.Rows.slot_list_sort ⟨_, hoL, rfl⟩ PyProof.Rows.entry_list_sort
    (SrtO.list_sort_ord (s := { s1 with heap := h'.push (seqObj "list" acc.toList.toArray 0), toks := tk }) (SrtO.swo_fst fun u => k (backV u)) hoL hlA (fun h2 => SrtO.rows_sortable (by omega) (fun v hm => (hp v hm).keeps fun b o e _ => Heap.get?_push_of_some _ e) hu' fun o e => ?_) fun out hs hb => ⟨_, rfl, ?_⟩)
    (PyProof.Rows.args_list_sort _)))
  · have e' : some o = some (seqObj "list" acc.toList.toArray 0) := e.symm.trans hoL
    cases e'
    intro c
    exact absurd (Value.type.inj c) (by decide)
  have h3 : ∀ u ∈ out, ∃ a, u = Value.ref a := fun u hu => by
    have := hb.perm.mem_iff.mp hu
    obtain ⟨t, e, _⟩ := mem u this
    exact ⟨t, e⟩
  obtain ⟨e', he'⟩ := PyProof.Rows.sortedHeap_at (vs := acc.toList) (out := out.toArray) hoL
  have hpm : (out.map backV).Perm (kvs.map (·.2)) := by
    rw [e1, ← hal]
    exact hb.perm.map backV
  have hlen : (out.map backV).length ≤ sizeLine := by rw [hpm.length_eq, List.length_map]; exact hz
  refine wpAny_pure ⟨_, rfl, .ref h'.objs.size, upd H1 h'.objs.size (.lst (out.map backV)), I2.laid (t' := tk) (fun b u e => ?_) (Nat.le_refl _) ⟨hlen, out, e', vals_back h3, he'⟩, rfl, q _ _ (List.pairwise_map.mpr (List.Pairwise.imp (fun {a b} h => ?_) hs)) hpm (I2.hok.fresh (Nat.le_refl _))⟩
  · have hb' : b < h'.objs.size := Heap.lt_size e
    rw [PyProof.Rows.sortedHeap_old (Nat.ne_of_lt hb') (by rw [size_push']; exact Nat.lt_succ_of_lt hb')]
    exact Heap.get?_push_of_some _ e
  · have := of_decide_eq_false h
    omega
end
end Pd

set_option maxHeartbeats 4000000
namespace Pd
open PySem PySem.Spec PyProof.Rows L2 SX
/-! ### rows in the order of their turns -/
def turnOf (H : Hp) : V → Int
  | .ref p => match H p with
    | some (.tup (.int i :: _)) => i
    | _ => 0
  | _ => 0
inductive RA (H : Hp) : List V → List Row3 → Prop where
  | nil : RA H [] []
  | cons {p : Addr} {r : Row3} {vs : List V} {R : List Row3} (h : H p = some (.tup [.int (r.2.1 : Nat), .str (S r.2.2)])) (t : RA H vs R) : RA H (.ref p :: vs) (r :: R)
section
variable {H : Hp}
theorem turn_at {p : Addr} {r : Row3} (h : H p = some (.tup [.int (r.2.1 : Nat), .str (S r.2.2)])) : turnOf H (.ref p) = (r.2.1 : Nat) := by
  show (match H p with | some (.tup (.int i :: _)) => i | _ => 0) = _
  rw [h]
theorem KR.ra : ∀ {kvs : List (Key × V)} {R : List Row3}, KR H kvs R → RA H (kvs.map (·.2)) R
  | _, _, .nil => .nil
  | _, _, .cons (kv := kv) ⟨_, p, e1, e2⟩ t => by
    rw [List.map_cons, e1]
    exact .cons e2 t.ra
theorem RA.mem : ∀ {vs : List V} {R : List Row3}, RA H vs R → ∀ v ∈ vs, ∃ r ∈ R, turnOf H v = (r.2.1 : Nat) ∧ ∃ t, v = .ref t ∧ H t = some (.tup [.int (turnOf H v), .str (S r.2.2)])
  | _, _, .nil, _, h => nomatch h
  | _, _, .cons (p := p) h t, v, hv => by
    rcases List.mem_cons.mp hv with rfl | hv
    · exact ⟨_, List.mem_cons_self .., turn_at h, p, rfl, by rw [turn_at h]; exact h⟩
    · obtain ⟨r, hr, e⟩ := t.mem v hv
      exact ⟨r, List.mem_cons_of_mem _ hr, e⟩
theorem RA.mem' : ∀ {vs : List V} {R : List Row3}, RA H vs R → ∀ r ∈ R, ∃ v ∈ vs, turnOf H v = (r.2.1 : Nat)
  | _, _, .nil, _, h => nomatch h
  | _, _, .cons (p := p) h t, r, hr => by
    rcases List.mem_cons.mp hr with rfl | hr
    · exact ⟨_, List.mem_cons_self .., turn_at h⟩
    · obtain ⟨v, hv, e⟩ := t.mem' r hr
      exact ⟨v, List.mem_cons_of_mem _ hv, e⟩
theorem RA.uniq : ∀ {vs : List V} {R : List Row3}, RA H vs R → R.Pairwise (fun a b => a.2.1 ≠ b.2.1) → ∀ v ∈ vs, ∀ u ∈ vs, turnOf H v = turnOf H u → v = u
  | _, _, .nil, _, _, h => nomatch h
  | _, _, .cons (p := p) (r := r) h t, pw, v, hv => by
    obtain ⟨p1, p2⟩ := List.pairwise_cons.mp pw
    intro u hu e
    rcases List.mem_cons.mp hv with rfl | hv
    · rcases List.mem_cons.mp hu with rfl | hu
      · rfl
      · obtain ⟨r', hr', e', _⟩ := t.mem u hu
        rw [turn_at h, e'] at e
        exact absurd (by omega) (p1 r' hr')
    · rcases List.mem_cons.mp hu with rfl | hu
      · obtain ⟨r', hr', e', _⟩ := t.mem v hv
        rw [turn_at h, e'] at e
        exact absurd (by omega) (p1 r' hr')
      · exact t.uniq p2 v hv u hu e
theorem RA.perm {xs ys : List V} (p : ys.Perm xs) : ∀ {R : List Row3}, RA H xs R → ∃ R2, RA H ys R2 ∧ R2.Perm R := by
  induction p with
  | nil => exact fun h => ⟨_, h, .refl _⟩
  | cons v _ ih =>
    intro R h
    cases h with
    | cons h t =>
      obtain ⟨R2, a, b⟩ := ih t
      exact ⟨_, .cons h a, b.cons _⟩
  | swap v u l =>
    intro R h
    cases h with
    | cons h t => cases t with
      | cons h' t => exact ⟨_, .cons h' (.cons h t), .swap ..⟩
  | trans _ _ ih1 ih2 =>
    intro R h
    obtain ⟨R1, a, b⟩ := ih2 h
    obtain ⟨R2, c, d⟩ := ih1 a
    exact ⟨R2, c, d.trans b⟩
theorem RA.asc : ∀ {vs : List V} {R : List Row3}, RA H vs R → vs.Pairwise (fun u v => turnOf H u ≤ turnOf H v) → R.Pairwise fun a b => a.2.1 ≤ b.2.1
  | _, _, .nil, _ => List.Pairwise.nil
  | _, _, .cons h t, pw => by
    obtain ⟨p1, p2⟩ := List.pairwise_cons.mp pw
    refine List.pairwise_cons.mpr ⟨fun r hr => ?_, t.asc p2⟩
    obtain ⟨v, hv, e⟩ := t.mem' r hr
    have := p1 v hv
    rw [turn_at h, e] at this
    omega
theorem asc_uniq : ∀ {l m : List Row3}, l.Pairwise (fun a b => a.2.1 ≤ b.2.1) → m.Pairwise (fun a b => a.2.1 < b.2.1) → l.Perm m → l = m
  | [], m, _, _, h => (List.Perm.eq_nil h.symm).symm
  | x :: l, [], _, _, h => absurd h.length_eq (by simp)
  | x :: l, y :: m, hl, hm, h => by
    obtain ⟨l1, l2⟩ := List.pairwise_cons.mp hl
    obtain ⟨m1, m2⟩ := List.pairwise_cons.mp hm
    have e : x = y := by
      rcases List.mem_cons.mp (h.mem_iff.mp (List.mem_cons_self (a := x) (l := l))) with e | hx
      · exact e
      rcases List.mem_cons.mp (h.mem_iff.mpr (List.mem_cons_self (a := y) (l := m))) with e | hy
      · exact e.symm
      have := m1 x hx
      have := l1 y hy
      omega
    subst e
    rw [asc_uniq l2 m2 h.cons_inv]
theorem RA.get : ∀ {vs : List V} {R : List Row3} {i : Nat} {v : V}, RA H vs R → vs[i]? = some v → ∃ r p, R[i]? = some r ∧ v = .ref p ∧ H p = some (.tup [.int (r.2.1 : Nat), .str (S r.2.2)])
  | _, _, _, _, .nil, e => by simp at e
  | _, _, 0, _, .cons h t, e => by
    simp at e; subst e
    exact ⟨_, _, by simp, rfl, h⟩
  | _, _, i + 1, _, .cons h t, e => by
    obtain ⟨r, p, e1, e2, h1⟩ := t.get (i := i) (by simpa using e)
    exact ⟨r, p, by simpa using e1, e2, h1⟩
theorem RA.len : ∀ {vs : List V} {R : List Row3}, RA H vs R → vs.length = R.length
  | _, _, .nil => rfl
  | _, _, .cons _ t => congrArg (· + 1) t.len
/-- the values of a table, sorted, are its rows in their order -/
theorem TabAt.sorted {d : Addr} {R : List Row3} {n : Nat} (T : TabAt H d R) (ok : RowsOk R n) : ∃ kvs, H d = some (.dK kvs) ∧ kvs.length = R.length ∧ (∀ v ∈ kvs.map (·.2), ∃ t y, v = V.ref t ∧ H t = some (.tup [.int (turnOf H v), .str y])) ∧ (∀ v ∈ kvs.map (·.2), ∀ u ∈ kvs.map (·.2), turnOf H v = turnOf H u → v = u) ∧
    ∀ ys, ys.Pairwise (fun u v => turnOf H u ≤ turnOf H v) → ys.Perm (kvs.map (·.2)) → RA H ys R := by
  obtain ⟨kvs, R', e, r, q⟩ := T
  have ra := r.ra
  have un : R'.Pairwise fun a b => a.2.1 ≠ b.2.1 := q.symm.pairwise (ok.asc.imp fun {a b} h => by omega) fun {a b} h => Ne.symm h
  refine ⟨kvs, e, r.len.trans q.length_eq, fun v hv => ?_, fun v hv u hu => ra.uniq un v hv u hu, fun ys h1 h2 => ?_⟩
  · obtain ⟨r0, _, _, t, e1, e2⟩ := ra.mem v hv
    exact ⟨t, _, e1, e2⟩
  · obtain ⟨R2, a, b⟩ := RA.perm h2 ra
    have := asc_uniq (a.asc h1) ok.asc (b.trans q)
    subst this
    exact a
end
/-! ### change -/
def Sh.changed (x : Sh) (q : Pst) (d : Addr) (g : Dg) (t : Addr) (R : List Row3) (n : Nat) : Sh := ⟨d, g, t, n, x.p, R, q :: x.st⟩
def texts3 (R : List Row3) : List (List Nat) := R.map (·.2.2)
def again (x : Sh) (g : Dg) : Pz := puts (mks g.s1) ⟨[], x.n, [], []⟩ (texts3 x.R)
def spSChange (K : PySem.W.Frag) (C CD CS : Addr) : Sp := fun vs H Q _ => ∃ s x d g, vs = [.ref s, .ref d] ∧ ShAt K C CD CS H s x ∧ DAt K C CD H d g ∧ x.n ≤ 100000 ∧ x.R.length ≤ 1000 ∧ x.st.length ≤ 100000 ∧
  ∀ q t H', PastOf H x q → H t = none → t ≠ q.la → t ≠ q.ls → ShAt K C CD CS H' s (x.changed q d g t (again x g).R (again x g).n) → KpL (own s x) H H' → Q .non H'
section
variable {P : Program} {w : World} {K : PySem.W.Frag} {mg : Str → Option Value} {base : Heap}
theorem ok_schange {f C CD CS : Addr} {fd : FuncData} (F : Fun K "change" "Shelf.change" sShelfChange f fd) (mS : mg "sorted" = none) (Z : Scl K mg CS) (M1 : Mt P w K mg base CS 4 "_form_put" ["self", "text"] (spFormPut K C CD CS)) (M2 : Mt P w K mg base CS 1 "_enter" ["self", "form", "text"] (spEnter CS)) (M3 : Mt P w K mg base CS 1 "_note" ["self", "added", "struck"] (spNote CS)) : FnOk P w K mg base CX0 5 f fd ["self", "doors"] (spSChange K C CD CS) := by
  refine F.ok scShelfChange (fun vs H Q E h => ?_) (fun cdv A outer s H vs Q E hr h => ?_)
  · obtain ⟨s, x, d, g, rfl, _⟩ := h
    rfl
  · obtain ⟨s, x, d, g, rfl, S0, D0, hn, hR, hst, q⟩ := h
    have hu := hu_of hr
    have nd := scShelfChange.nd
    refine ⟨_, PSs.nox (pss_cons (ps_expr (pe_mt M3 hr (by decide) Z.cl (pv 0) (pa_cons (pe_lst pa_nil) (pa_cons (pe_lst pa_nil) pa_nil))))
      (pss_cons (ps_set (i := 2) nd rfl (Or.inl rfl) (pe_sortVals rfl (by rfl) mS (pe_fld (pv 0) rfl)))
      (pss_cons (ps_fld (pv 0) (pv 1) rfl)
      (pss_cons (ps_fld (pv 0) pe_dnewK rfl)
      (pss_one (ps_for PassesOwn.never rfl (pi_list (pv 2)) (pg_tup (by rfl) (pgs_cons (pg_name (i := 3) nd rfl (Or.inl rfl)) (pgs_cons (pg_name (i := 4) nd rfl (Or.inl rfl)) pgs_nil)))
        (pss_cons (ps_set (i := 5) nd rfl (Or.inl rfl) (pe_mt M1 hr (by decide) Z.cl (pv 0) (pa_cons (pv 4) pa_nil)))
        (pss_one (ps_if (pt_cmp (pc_dnotin hu (pv 5) (pe_fld (pv 0) rfl)))
          (pss_one (ps_expr (pe_mt M2 hr (by decide) Z.cl (pv 0) (pa_cons (pv 5) (pa_cons (pv 4) pa_nil))))) pss_nil))))))))), ?_⟩
    obtain ⟨dx, e⟩ := S0.ins
    obtain ⟨nst, nsp, ntp⟩ := S0.ne
    obtain ⟨kv0, _, et0, _⟩ := id S0.tab
    refine ⟨_, rfl, s, dx, _, rfl, e, rfl, by show 0 ≤ sizeLine; decide, fun la hla => ?_⟩
    obtain ⟨H1, z1⟩ : ∃ H', H' = upd H la (.lst []) := ⟨_, rfl⟩
    rw [← z1]
    have k1 : Ext H H1 := by rw [z1]; exact Ext.refl.new hla
    refine ⟨by show 0 ≤ sizeLine; decide, fun ls hls => ?_⟩
    obtain ⟨H2, z2⟩ : ∃ H', H' = upd H1 ls (.lst []) := ⟨_, rfl⟩
    rw [← z2]
    have k2 : Ext H1 H2 := by rw [z2]; exact Ext.refl.new hls
    have k02 := k1.trans k2
    refine ⟨s, x.d, x.t, x.n, x.p, la, ls, _, rfl, ⟨dx, k02 _ _ e⟩, k02 _ _ S0.past, by rw [List.length_map, List.length_reverse, sizeLine_eq]; omega, fun tp htp => ?_⟩
    obtain ⟨H3, z3⟩ : ∃ H', H' = upd H2 tp (.tup [.ref x.d, .ref x.t, .ref la, .ref ls]) := ⟨_, rfl⟩
    rw [← z3]
    have k3 : Ext H2 H3 := by rw [z3]; exact Ext.refl.new htp
    have k03 := k02.trans k3
    obtain ⟨H4, z4⟩ : ∃ H', H' = upd H3 x.p (.lst ((x.st.reverse.map fun q => V.ref q.tp) ++ [.ref tp])) := ⟨_, rfl⟩
    rw [show upd H3 x.p (.lst ((x.st.reverse.map fun q => V.ref q.tp) ++ [.ref tp])) = H4 from z4.symm]
    have k4 : KpL [x.p] H3 H4 := by rw [z4]; exact .upd (by simp)
    have np : ∀ {a : Addr}, a ≠ x.p → a ∉ [x.p] := fun h => by simpa using h
    have Hla : H la = none := hla
    have Hls : H ls = none := by
      cases z : H ls with
      | none => rfl
      | some o => rw [k1 _ _ z] at hls; cases hls
    have Htp : H tp = none := by
      cases z : H tp with
      | none => rfl
      | some o => rw [k02 _ _ z] at htp; cases htp
    have nn : ∀ {a}, H a = none → a ≠ s ∧ a ≠ x.t ∧ a ≠ x.p := fun {a} h => ⟨by rintro rfl; exact S0.dom own_s h, by rintro rfl; exact S0.dom own_t h, by rintro rfl; exact S0.dom own_p h⟩
    have k04 : KpL [x.p] H H4 := (KpL.ext k03).trans k4
    have cp : ChgM H [x.p] := chg_lst S0.past
    have T4 : TabAt H4 x.t x.R := S0.tab.kpL k04 cp (np ntp)
    have e4 : H4 s = some (.ins CS dx (shF x.d x.t x.n x.p)) := k04 _ _ (np nsp) e
    obtain ⟨kvs, et4, lkv, hv, huq, hys⟩ := T4.sorted S0.rows
    refine ⟨_, rfl, s, CS, dx, _, _, rfl, e4, Z.cl, Z.n2, rfl, x.t, kvs, turnOf H4, rfl, et4, hv, huq, fun ys rp y1 y2 hrp => ?_⟩
    have ra := hys ys y1 y2
    obtain ⟨H5, z5⟩ : ∃ H', H' = upd H4 rp (.lst ys) := ⟨_, rfl⟩
    rw [← z5]
    have k5 : Ext H4 H5 := by rw [z5]; exact Ext.refl.new hrp
    have e5 := k5 _ _ e4
    have hrp5 : H5 rp = some (.lst ys) := by rw [z5, upd_same]
    refine ⟨_, rfl, _, rfl, s, CS, dx, _, rfl, e5, Z.cl, Z.n1, by show 4 < 1000; decide, ?_⟩
    refine fun t ht => ?_
    have hts : t ≠ s := by rintro rfl; rw [upd_same] at ht; cases ht
    rw [upd_ne hts] at ht
    refine ⟨_, rfl, s, CS, dx, _, rfl, by rw [upd_ne (Ne.symm hts), upd_same], Z.cl, Z.n2, by show 4 < 1000; decide, ?_⟩
    have Ht4 : H4 t = none := by
      cases z : H4 t with
      | none => rfl
      | some o => rw [k5 _ _ z] at ht; cases ht
    have Ht : H t = none := k04.ne Ht4 (fun z => by
      rw [List.mem_singleton.mp z, z4, upd_same] at Ht4; cases Ht4)
    have ntr : rp ≠ t := ne_of_none hrp5 ht
    have nsr : rp ≠ s := by rintro rfl; rw [hrp5] at e5; cases e5
    have c5 : ChgM H5 [s] := fun a z => by rw [List.mem_singleton.mp z]; exact ⟨_, e5, .inr (.inr ⟨_, _, _, _, _, _, rfl⟩)⟩
    have cut5 : ∀ {H'}, KpL [s, t] H5 H' → KpL [s] H5 H' := fun k => k.cut (by
      intro j z
      simp only [List.mem_cons, List.mem_nil_iff, or_false] at z
      rcases z with rfl | rfl
      · exact .inl (by simp)
      · exact .inr ht)
    have nst2 : ∀ {a}, a ≠ s → a ≠ t → a ∉ [s, t] := fun h1 h2 => by simp [h1, h2]
    have D5 : DAt K C CD H5 d g := (D0.kpL k04 cp).ext k5
    have gf : ∀ l, Good l → Good (mks g.s1 l) := fun l hl => mks_good (fun st hst => by
      obtain ⟨_, ⟨ps, _, al⟩, _⟩ := D0.f1
      exact al.ok st hst) hl
    have gt : ∀ l ∈ texts3 x.R, Good l := fun l hl => by
      obtain ⟨r, hr, rfl⟩ := List.mem_map.mp hl
      exact (S0.rows.good r hr).2
    have ok0 : RowsOk [] x.n := ⟨List.nodup_nil, List.Pairwise.nil, (fun _ h => nomatch h), fun _ h => nomatch h⟩
    have pok := puts_ok (ts := texts3 x.R) ok0 gf gt
    have lts : (texts3 x.R).length = x.R.length := List.length_map _
    refine ⟨_, rfl, rp, rfl, ⟨_, SqL.of (by rw [upd_ne nsr, upd_ne ntr, upd_ne nsr]; exact hrp5)⟩, for_list (xs := ys) (fun i σ H' => ∃ u3 u4 u5, σ = [some (.ref s), some (.ref d), some (.ref rp), u3, u4, u5] ∧ H' s = some (.ins CS dx (shF d t (puts (mks g.s1) ⟨[], x.n, [], []⟩ ((texts3 x.R).take i)).n x.p)) ∧ TabAt H' t (puts (mks g.s1) ⟨[], x.n, [], []⟩ ((texts3 x.R).take i)).R ∧ KpL [s, t] H5 H') ?_ (fun i σ H' _ p => by
      obtain ⟨_, _, _, _, _, _, k⟩ := p
      exact SqL.of (k _ _ (nst2 nsr ntr) hrp5)) ?_ ?_⟩
    · refine ⟨none, none, none, rfl, ?_, ?_, ?_⟩
      · rw [upd_same]; rfl
      · refine ⟨[], [], ?_, .nil, .refl _⟩
        rw [upd_ne hts, upd_same]
      · exact KpL.in_ (KpL.in_ (KpL.in_ .refl (by simp)) (by simp)) (by simp)
    · rintro i v σ H6 hx ⟨u3, u4, u5, rfl, e6, T6, k6⟩
      obtain ⟨r, p, hr0, rfl, hp4⟩ := ra.get hx
      have hi : i < x.R.length := (List.getElem?_eq_some_iff.mp hr0).1
      have htx : (texts3 x.R)[i]? = some r.2.2 := by
        unfold texts3
        rw [List.getElem?_map, hr0]; rfl
      have gr := gt r.2.2 (List.mem_of_getElem? htx)
      have pk := pok i (by rw [lts]; omega)
      rw [puts_take htx]
      generalize puts (mks g.s1) ⟨[], x.n, [], []⟩ ((texts3 x.R).take i) = z at e6 T6 pk ⊢
      have zn := pk.le.2
      have zR := pk.ok.len
      have hp5 := k5 _ _ hp4
      have hp6 : H6 p = some (.tup [.int (r.2.1 : Nat), .str (S r.2.2)]) := k6 _ _ (nst2 (by rintro rfl; rw [hp5] at e5; cases e5) (ne_of_none hp5 ht)) hp5
      refine ⟨p, _, rfl, SqT.of hp6, rfl, _, _, rfl, _, _, rfl, rfl, ?_⟩
      have D6 : DAt K C CD H6 d g := D5.kpL (cut5 k6) c5
      refine ⟨_, rfl, s, dx, _, rfl, e6, rfl, _, rfl, s, d, t, z.n, x.p, g, r.2.2, rfl, ⟨dx, e6⟩, D6, gr, fun H7 k7 => ?_⟩
      have e7 := k7 _ _ e6
      have T7 := T6.ext k7
      obtain ⟨kvs7, et7, l7, hno, hso⟩ := T7.look (g := mks g.s1 r.2.2) pk.ok.nd
      refine ⟨_, rfl, _, rfl, s, CS, dx, _, _, rfl, e7, Z.cl, Z.n2, rfl, t, _, rfl, DGet.k (k := kyS (mks g.s1 r.2.2)) et7, _, rfl, ?_⟩
      unfold put1
      by_cases hm : mks g.s1 r.2.2 ∈ forms z.R
      · obtain ⟨r', hr1, hr2⟩ := List.mem_map.mp hm
        obtain ⟨tp', hv', _⟩ := hso r' hr1 hr2
        rw [hv', if_pos hm]
        exact iteF ⟨_, _, _, rfl, e7, T7, k6.trans (.ext k7)⟩
      · rw [hno hm, if_neg hm]
        refine iteT ⟨_, rfl, s, dx, _, rfl, e7, rfl, _, rfl, _, rfl, s, dx, d, t, z.n, x.p, mks g.s1 r.2.2, r.2.2, kvs7, rfl, e7, et7, by rw [l7, sizeLine_eq]; omega, fun tq htq => ?_⟩
        obtain ⟨H8, z8⟩ : ∃ H', H' = upd H7 tq (.tup [.int (z.n : Nat), .str (S r.2.2)]) := ⟨_, rfl⟩
        rw [← z8]
        have k8 : Ext H7 H8 := by rw [z8]; exact Ext.refl.new htq
        have T8 := T7.ext k8
        obtain ⟨kvs', et8, _, T9⟩ := T8.put hm (t := z.n) (x := r.2.2) (p := tq) (by rw [z8, upd_same])
        have ekv : kvs' = kvs7 := by
          have := k8 _ _ et7
          rw [et8] at this; cases this; rfl
        subst ekv
        obtain ⟨H9, z9⟩ : ∃ H', H' = upd H8 t (.dK (putK kvs' (kyS (mks g.s1 r.2.2)) (.ref tq))) := ⟨_, rfl⟩
        rw [← z9] at T9 ⊢
        have e9 : H9 s = some (.ins CS dx (shF d t z.n x.p)) := by rw [z9, upd_ne (Ne.symm hts)]; exact k8 _ _ e7
        refine ⟨_, _, _, rfl, by rw [upd_same], T9.kpL (js := [s]) (.upd (by simp)) (fun a h => by rw [List.mem_singleton.mp h]; exact ⟨_, e9, .inr (.inr ⟨_, _, _, _, _, _, rfl⟩)⟩) (by simp; exact hts), ?_⟩
        refine KpL.in_ ?_ (by simp)
        rw [z9]
        exact KpL.in_ (k6.trans (.ext (k7.trans k8))) (by simp)
    · rintro σ H6 ⟨u3, u4, u5, rfl, e6, T6, k6⟩
      have el : ys.length = (texts3 x.R).length := by rw [lts]; exact ra.len
      rw [el, List.take_length] at e6 T6
      have pk := pok _ (Nat.le_refl _)
      rw [List.take_length] at pk
      have eag : again x g = puts (mks g.s1) ⟨[], x.n, [], []⟩ (texts3 x.R) := rfl
      rw [eag] at q
      generalize puts (mks g.s1) ⟨[], x.n, [], []⟩ (texts3 x.R) = z at e6 T6 pk q
      have k45 : KpL [s] H4 H6 := (KpL.ext k5).trans (cut5 k6)
      have kk : KpL [x.p, s] H H6 := (k04.mono (by intro a z; simp at z; simp [z])).trans (k45.mono (by intro a z; simp at z; simp [z]))
      have cc : ChgM H [x.p, s] := fun a z => S0.chg a (by
        simp only [List.mem_cons, List.mem_nil_iff, or_false] at z
        rcases z with rfl | rfl
        · exact own_p
        · exact own_s)
      have c4 : ChgM H4 [s] := fun a z => by rw [List.mem_singleton.mp z]; exact ⟨_, e4, .inr (.inr ⟨_, _, _, _, _, _, rfl⟩)⟩
      have ns : ∀ {a : Addr}, a ≠ s → a ∉ [s] := fun h => by simpa using h
      have n2 : ∀ {a : Addr}, a ≠ x.p → a ≠ s → a ∉ [x.p, s] := fun h h' => by simp [h, h']
      have new4 : ∀ {a o}, H a = none → H3 a = some o → H4 a = some o := fun {a o} h e => k4 _ _ (np (nn h).2.2) e
      have hla6 : H6 la = some (.lst []) := k45 _ _ (ns (nn Hla).1) (new4 Hla ((k2.trans k3) _ _ (by rw [z1, upd_same])))
      have hls6 : H6 ls = some (.lst []) := k45 _ _ (ns (nn Hls).1) (new4 Hls (k3 _ _ (by rw [z2, upd_same])))
      have htp6 : H6 tp = some (.tup [.ref x.d, .ref x.t, .ref la, .ref ls]) := k45 _ _ (ns (nn Htp).1) (new4 Htp (by rw [z3, upd_same]))
      have hla4 : H4 la = some (.lst []) := new4 Hla ((k2.trans k3) _ _ (by rw [z1, upd_same]))
      have hls4 : H4 ls = some (.lst []) := new4 Hls (k3 _ _ (by rw [z2, upd_same]))
      have tab6 : ∀ q ∈ x.st, q.t ≠ x.p ∧ q.t ≠ s := fun q' hq' => by
        obtain ⟨kvs, ek⟩ := S0.stk.tabk ⟨_, et0⟩ q' hq'
        refine ⟨fun z => ?_, fun z => ?_⟩
        · have := S0.past; rw [← z, ek] at this; cases this
        · rw [z, e] at ek; cases ek
      have stk6 : Stk K C CD H6 x.t x.R z.n x.st := (S0.stk.kpL kk cc (fun q' hq' => by
        have ph := S0.stk.pst q' hq'
        have dq := S0.dis q' hq'
        refine ⟨n2 dq.1 (fun z => ?_), n2 dq.2 (fun z => ?_)⟩
        · have := ph.la; rw [z, e] at this; cases this
        · have := ph.ls; rw [z, e] at this; cases this) (fun q' hq' => .inr (n2 (tab6 q' hq').1 (tab6 q' hq').2))).mono pk.le.1
      obtain ⟨qq, eqq⟩ : ∃ qq : Pst, qq = ⟨tp, x.d, x.g, x.t, la, ls, [], [], x.R⟩ := ⟨_, rfl⟩
      have pst6 : PstAt K C CD H6 qq := by
        rw [eqq]
        exact ⟨htp6, S0.doors.kpL kk cc, hla6, hls6, fun _ h => nomatch h⟩
      have D6 : DAt K C CD H6 d g := D5.kpL (cut5 k6) c5
      refine q qq t H6 (by rw [eqq]; exact ⟨rfl, rfl, rfl, rfl, Hla, Hls⟩) Ht (by rw [eqq]; rintro rfl; rw [hla4] at Ht4; cases Ht4) (by rw [eqq]; rintro rfl; rw [hls4] at Ht4; cases Ht4)
        ⟨⟨dx, e6⟩, D6, T6, pk.ok, ?_, .other pst6 (by rw [eqq]) (by rw [eqq]) (by rw [eqq]; exact S0.tab.kpL kk cc (n2 ntp (Ne.symm nst))) (by rw [eqq]; exact S0.rows.mono pk.le.1) (fun z => ?_) (by rw [eqq]; exact stk6), fun q' hq' => ?_⟩ (kk.mono fun a z => ?_)
      · show H6 x.p = some (.lst ((qq :: x.st).reverse.map fun q => V.ref q.tp))
        rw [k45 _ _ (ns (Ne.symm nsp)) (by rw [z4, upd_same]), List.reverse_cons, List.map_append, eqq]; rfl
      · obtain ⟨q', hq', et'⟩ := List.mem_map.mp z
        rcases List.mem_cons.mp hq' with e' | hq'
        · rw [e', eqq] at et'
          have et' : x.t = t := et'
          rw [← et', et0] at Ht; cases Ht
        · obtain ⟨kvs, ek⟩ := S0.stk.tabk ⟨_, et0⟩ q' hq'
          have et2 : q'.t = t := et'
          rw [et2, Ht] at ek; cases ek
      · rcases List.mem_cons.mp hq' with e' | hq'
        · rw [e', eqq]
          exact ⟨(nn Hla).2.2, (nn Hls).2.2⟩
        · exact S0.dis q' hq'
      · simp only [List.mem_cons, List.mem_nil_iff, or_false] at z
        rcases z with rfl | rfl
        · exact own_p
        · exact own_s
end
end Pd

set_option maxHeartbeats 4000000
namespace Pd
open PySem PySem.Spec PyProof.Rows L2 SX
/-! ### the law's change -/
def lagain (f : List Nat → List Nat) (R : List Row2) : List Row2 := (lputs f ([], []) (R.map (·.2))).1
theorem prs_again {x : Sh} {g : Dg} : prs (again x g).R = lagain (mks g.s1) (prs x.R) := by
  unfold again lagain
  rw [(prs_puts (f := mks g.s1) (ts := texts3 x.R) (z := ⟨[], x.n, [], []⟩)).1]
  have e : (prs x.R).map (·.2) = texts3 x.R := by unfold prs texts3; rw [List.map_map]; rfl
  rw [e]; rfl
theorem lputR_good {f : List Nat → List Nat} {R : List Row2} {l : List Nat} (gf : ∀ l, Good l → Good (f l)) (h : ∀ r ∈ R, Good r.1 ∧ Good r.2) (gl : Good l) : ∀ r ∈ lputR f R l, Good r.1 ∧ Good r.2 := by
  unfold lputR
  split
  · exact h
  · intro r hr
    rcases List.mem_append.mp hr with hr | hr
    · exact h r hr
    · rw [List.mem_singleton.mp hr]; exact ⟨gf _ gl, gl⟩
theorem lputs_good {f : List Nat → List Nat} (gf : ∀ l, Good l → Good (f l)) : ∀ {ts : List (List Nat)} {z : List Row2 × List Bool}, (∀ r ∈ z.1, Good r.1 ∧ Good r.2) → (∀ t ∈ ts, Good t) → ∀ r ∈ (lputs f z ts).1, Good r.1 ∧ Good r.2
  | [], _, h, _ => h
  | t :: ts, z, h, g => lputs_good gf (ts := ts) (z := lput1 f z t) (lputR_good gf h (g t (List.mem_cons_self ..))) fun s hs => g s (List.mem_cons_of_mem _ hs)
/-- a dict whose keys are texts -/
def KnAt (H : Hp) (a : Addr) (gs : List (List Nat)) : Prop := ∃ kvs, H a = some (.dK kvs) ∧ kvs.map (·.1) = gs.map kyS
theorem val_keys {g : List Nat} : ∀ {kvs : List (Key × V)} {gs : List (List Nat)}, kvs.map (·.1) = gs.map kyS → (valV kvs (kyS g)).isSome = decide (g ∈ gs)
  | [], [], _ => rfl
  | [], _ :: _, h => by simp at h
  | _ :: _, [], h => by simp at h
  | kv :: kvs, a :: gs, h => by
    rw [List.map_cons, List.map_cons] at h
    injection h with h1 h2
    by_cases e : g = a
    · subst e
      rw [valV_pos h1]
      simp
    · rw [valV_neg (by rw [h1]; exact fun z => e (kyS_inj z).symm), val_keys h2]
      simp [e]
def spLChange (K : PySem.W.Frag) (b : Nat) : Sp := fun vs H Q _ => ∃ st y fo rs rws, vs = [.ref st, .ref fo] ∧ LsAt K b H st y ∧ FourB K b H fo rs rws ∧ fo ≠ st ∧ fo ≠ y.pl ∧ y.R.length ≤ 1000 ∧ y.ps.length ≤ 90000 ∧
  ∀ p rl H', LPast H y p rl → H rl = none → LsAt K b H' st { y with four := fo, rs := rs, rws := rws, rl := rl, R := lagain (mks (rws.getD 0 [])) y.R, ps := p :: y.ps } → KpL [st, y.pl] H H' → Q .non H'
section
variable {P : Program} {w : World} {K : PySem.W.Frag} {mg : Str → Option Value} {base : Heap}
end
end Pd

set_option maxHeartbeats 4000000
namespace Pd
open PySem PySem.Spec PyProof.Rows L2 SX
/-! ### pairs: what is written, what is read -/
def wr (p : Pr) : List Addr := own p.s p.x ++ [p.st, p.y.pl]
theorem two_lown {st : Addr} {y : Ls} {a : Addr} (h : a ∈ [st, y.pl]) : a ∈ lown st y := by
  simp only [List.mem_cons, List.mem_nil_iff, or_false] at h
  rcases h with rfl | rfl
  · exact List.mem_cons_self ..
  · exact List.mem_cons_of_mem _ (List.mem_cons_self ..)
theorem wr_fp {p : Pr} {a : Addr} (h : a ∈ wr p) : a ∈ fp p := by
  rcases List.mem_append.mp h with h | h
  · exact List.mem_append_left _ h
  · exact List.mem_append_right _ (two_lown h)
section
variable {K : PySem.W.Frag} {C CD CS : Addr} {b : Nat} {H H1 H2 : Hp} {p : Pr}
theorem PrAt.chgW (h : PrAt K C CD CS b H p) : ChgM H (wr p) := fun a z => h.chg a (wr_fp z)
theorem PrAt.step' (h : PrAt K C CD CS b H p) {q : Pst} {R' : List Row3} {n' : Nat} {lp : Lp} {rl : Addr} {R2 : List Row2} (k1 : KpL (own p.s p.x) H H1) (S1 : ShAt K C CD CS H1 p.s (p.x.next q R' n')) (pq : PastOf H p.x q)
    (k2 : KpL [p.st, p.y.pl] H1 H2) (L2 : LsAt K b H2 p.st { p.y with R := R2, rl := rl, ps := lp :: p.y.ps }) (lq : LPast H1 p.y lp rl) (eR : R2 = prs R') :
    PrAt K C CD CS b H2 (p.next q R' n' rl lp R2) ∧ (∀ a ∈ fp (p.next q R' n' rl lp R2), a ∈ fp p ∨ H a = none) ∧ (∀ a ∈ wr (p.next q R' n' rl lp R2), a ∈ wr p ∨ H a = none) ∧ KpL (wr p) H H2 := by
  obtain ⟨a1, a2, _⟩ := h.step k1 S1 pq k2 L2 lq eR
  refine ⟨a1, a2, fun a z => ?_, (k1.mono fun a z => List.mem_append_left _ z).trans (k2.mono fun a z => List.mem_append_right _ z)⟩
  rcases List.mem_append.mp z with z | z
  · rcases (own_next pq.t).mp z with z | z | z
    · exact .inl (List.mem_append_left _ z)
    · exact .inr (z ▸ pq.la)
    · exact .inr (z ▸ pq.ls)
  · exact .inl (List.mem_append_right _ z)
theorem Stk.oks {n : Nat} : ∀ {ps : List Pst} {t : Addr} {R : List Row3}, Stk K C CD H t R n ps → ∀ q ∈ ps, RowsOk q.R n
  | _, _, _, .nil, _, z => nomatch z
  | _, _, _, .same h e r ok t, q', z => by
    rcases List.mem_cons.mp z with rfl | z
    · exact ok
    · exact t.oks _ z
  | _, _, _, .other h e1 e2 tb ok ne t, q', z => by
    rcases List.mem_cons.mp z with rfl | z
    · exact ok
    · exact t.oks _ z
/-- behind an undo -/
def Pr.undone (p : Pr) (q : Pst) (rest : List Pst) (lp : Lp) (lrest : List Lp) : Pr := { p with x := p.x.undone q rest, y := p.y.undone lp lrest }
theorem Ag.undone (h : Ag p.x p.y) {q : Pst} {rest : List Pst} {lp : Lp} {lrest : List Lp} (e1 : p.x.st = q :: rest) (e2 : p.y.ps = lp :: lrest) : Ag (p.x.undone q rest) (p.y.undone lp lrest) := by
  have hp := h.ps
  rw [e1, e2, List.map_cons, List.map_cons] at hp
  injection hp with hh ht
  exact ⟨(Prod.mk.inj hh).2, (Prod.mk.inj hh).1, ht⟩
theorem Ag.nil (h : Ag p.x p.y) : p.x.st = [] ↔ p.y.ps = [] := by
  have := congrArg List.length h.ps
  rw [List.length_map, List.length_map] at this
  rw [← List.length_eq_zero_iff, ← List.length_eq_zero_iff, this]
theorem Ag.good (h : PrAt K C CD CS b H p) : ∀ l ∈ p.y.ps, ∀ r ∈ l.R, Good r.1 ∧ Good r.2 := fun l hl r hr => by
  have m : (l.rws, l.R) ∈ p.y.ps.map fun p => (p.rws, p.R) := List.mem_map.mpr ⟨l, hl, rfl⟩
  rw [h.ag.ps] at m
  obtain ⟨q, hq, e⟩ := List.mem_map.mp m
  have e2 : l.R = prs q.R := (Prod.mk.inj e).2.symm
  rw [e2] at hr
  obtain ⟨r3, hr3, rfl⟩ := List.mem_map.mp hr
  have ok : RowsOk q.R p.x.n := h.S.stk.oks q hq
  exact ok.good r3 hr3
theorem PrAt.undoneLS (h : PrAt K C CD CS b H p) {q : Pst} {rest : List Pst} {lp : Lp} {lrest : List Lp} (e1 : p.x.st = q :: rest) (e2 : p.y.ps = lp :: lrest) (k1 : KpL [p.st, p.y.pl] H H1) (L1 : LsAt K b H1 p.st (p.y.undone lp lrest))
    (k2 : KpL (own p.s p.x) H1 H2) (S2 : ShAt K C CD CS H2 p.s (p.x.undone q rest)) :
    PrAt K C CD CS b H2 (p.undone q rest lp lrest) ∧ (∀ a ∈ fp (p.undone q rest lp lrest), a ∈ fp p) ∧ (∀ a ∈ wr (p.undone q rest lp lrest), a ∈ wr p) ∧ KpL (wr p) H H2 := by
  have c0 : ChgM H [p.st, p.y.pl] := fun a z => h.L.chg a (two_lown z)
  have S1 := h.S.kpL k1 c0 fun a z e => h.dj a z (two_lown e)
  refine ⟨⟨S2, L1.kpL k2 S1.chg fun a z e => h.dj a e (lown_undone e2 z), h.ag.undone e1 e2, fun a z e => h.dj a (own_undone e1 z) (lown_undone e2 e)⟩, fun a z => ?_, fun a z => ?_, (k1.mono fun a z => List.mem_append_right _ z).trans (k2.mono fun a z => List.mem_append_left _ z)⟩
  · rcases List.mem_append.mp z with z | z
    · exact List.mem_append_left _ (own_undone e1 z)
    · exact List.mem_append_right _ (lown_undone e2 z)
  · rcases List.mem_append.mp z with z | z
    · exact List.mem_append_left _ (own_undone e1 z)
    · exact List.mem_append_right _ z
theorem PrAt.undoneSL (h : PrAt K C CD CS b H p) {q : Pst} {rest : List Pst} {lp : Lp} {lrest : List Lp} (e1 : p.x.st = q :: rest) (e2 : p.y.ps = lp :: lrest) (k1 : KpL (own p.s p.x) H H1) (S1 : ShAt K C CD CS H1 p.s (p.x.undone q rest))
    (k2 : KpL [p.st, p.y.pl] H1 H2) (L2 : LsAt K b H2 p.st (p.y.undone lp lrest)) :
    PrAt K C CD CS b H2 (p.undone q rest lp lrest) ∧ (∀ a ∈ fp (p.undone q rest lp lrest), a ∈ fp p) ∧ (∀ a ∈ wr (p.undone q rest lp lrest), a ∈ wr p) ∧ KpL (wr p) H H2 := by
  have L1 := h.L.kpL k1 h.S.chg fun a z e => h.dj a e z
  have c1 : ChgM H1 [p.st, p.y.pl] := fun a z => L1.chg a (two_lown z)
  refine ⟨⟨S1.kpL k2 c1 fun a z e => h.dj a (own_undone e1 z) (two_lown e), L2, h.ag.undone e1 e2, fun a z e => h.dj a (own_undone e1 z) (lown_undone e2 e)⟩, fun a z => ?_, fun a z => ?_, (k1.mono fun a z => List.mem_append_left _ z).trans (k2.mono fun a z => List.mem_append_right _ z)⟩
  · rcases List.mem_append.mp z with z | z
    · exact List.mem_append_left _ (own_undone e1 z)
    · exact List.mem_append_right _ (lown_undone e2 z)
  · rcases List.mem_append.mp z with z | z
    · exact List.mem_append_left _ (own_undone e1 z)
    · exact List.mem_append_right _ z
/-- behind a change -/
def Ls.changed (y : Ls) (fo : Addr) (rs : List Addr) (rws : List (List Stp)) (rl : Addr) (lp : Lp) : Ls := { y with four := fo, rs := rs, rws := rws, rl := rl, R := lagain (mks (rws.getD 0 [])) y.R, ps := lp :: y.ps }
def Pr.changed (p : Pr) (q : Pst) (d : Addr) (g : Dg) (t fo : Addr) (rs : List Addr) (rws : List (List Stp)) (rl : Addr) (lp : Lp) : Pr := { p with x := p.x.changed q d g t (again p.x g).R (again p.x g).n, y := p.y.changed fo rs rws rl lp }
theorem own_changed {s : Addr} {x : Sh} {q : Pst} {d t : Addr} {g : Dg} {R : List Row3} {n : Nat} (e : q.t = x.t) {a : Addr} (h : a ∈ own s (x.changed q d g t R n)) : a ∈ own s x ∨ a = t ∨ a = q.la ∨ a = q.ls := by
  have h : a ∈ s :: t :: x.p :: ([q.la, q.ls, q.t] ++ x.st.flatMap fun q => [q.la, q.ls, q.t]) := h
  rw [e] at h
  simp only [List.mem_cons, List.mem_append, List.mem_nil_iff, or_false] at h
  rcases h with h | h | h | (h | h | h) | h
  · exact .inl (h ▸ own_s)
  · exact .inr (.inl h)
  · exact .inl (h ▸ own_p)
  · exact .inr (.inr (.inl h))
  · exact .inr (.inr (.inr h))
  · exact .inl (h ▸ own_t)
  · exact .inl (List.mem_cons_of_mem _ (List.mem_cons_of_mem _ (List.mem_cons_of_mem _ h)))
theorem lown_changed {st : Addr} {y : Ls} {fo : Addr} {rs : List Addr} {rws : List (List Stp)} {rl : Addr} {lp : Lp} (e : lp.four = y.four) {a : Addr} (h : a ∈ lown st (y.changed fo rs rws rl lp)) : a ∈ lown st y ∨ a = fo ∨ a = rl ∨ a = lp.rl := by
  have h : a ∈ st :: y.pl :: fo :: rl :: ([lp.four, lp.rl] ++ y.ps.flatMap fun p => [p.four, p.rl]) := h
  rw [e] at h
  simp only [List.mem_cons, List.mem_append, List.mem_nil_iff, or_false] at h
  rcases h with h | h | h | h | (h | h) | h
  · exact .inl (h ▸ List.mem_cons_self ..)
  · exact .inl (h ▸ List.mem_cons_of_mem _ (List.mem_cons_self ..))
  · exact .inr (.inl h)
  · exact .inr (.inr (.inl h))
  · exact .inl (h ▸ List.mem_cons_of_mem _ (List.mem_cons_of_mem _ (List.mem_cons_self ..)))
  · exact .inr (.inr (.inr h))
  · exact .inl (List.mem_cons_of_mem _ (List.mem_cons_of_mem _ (List.mem_cons_of_mem _ (List.mem_cons_of_mem _ h))))
theorem Ag.changed {q : Pst} {d t fo : Addr} {g : Dg} {rs : List Addr} {rws : List (List Stp)} {rl : Addr} {lp : Lp} (h : Ag p.x p.y) (er : rws = [g.s1, g.s2, g.s3, g.s4]) (e1 : lp.rws = p.y.rws) (e2 : lp.R = p.y.R) (e3 : q.g = p.x.g) (e4 : q.R = p.x.R) :
    Ag (p.x.changed q d g t (again p.x g).R (again p.x g).n) (p.y.changed fo rs rws rl lp) := by
  subst er
  refine ⟨?_, rfl, ?_⟩
  · show lagain (mks g.s1) p.y.R = prs (again p.x g).R
    rw [prs_again, h.R]
  · show (lp.rws, lp.R) :: p.y.ps.map (fun p => (p.rws, p.R)) = ([q.g.s1, q.g.s2, q.g.s3, q.g.s4], prs q.R) :: p.x.st.map fun q => ([q.g.s1, q.g.s2, q.g.s3, q.g.s4], prs q.R)
    rw [h.ps, e1, e2, e3, e4, h.s, h.R]
theorem PrAt.changedLS (h : PrAt K C CD CS b H p) {q : Pst} {d t fo : Addr} {g : Dg} {rs : List Addr} {rws : List (List Stp)} {rl : Addr} {lp : Lp} (k1 : KpL [p.st, p.y.pl] H H1) (L1 : LsAt K b H1 p.st (p.y.changed fo rs rws rl lp)) (lq : LPast H p.y lp rl) (Hrl : H rl = none)
    (k2 : KpL (own p.s p.x) H1 H2) (S2 : ShAt K C CD CS H2 p.s (p.x.changed q d g t (again p.x g).R (again p.x g).n)) (pq : PastOf H1 p.x q) (ht : H1 t = none) (er : rws = [g.s1, g.s2, g.s3, g.s4]) (hfo : fo ∉ own p.s p.x) :
    PrAt K C CD CS b H2 (p.changed q d g t fo rs rws rl lp) ∧ (∀ a ∈ fp (p.changed q d g t fo rs rws rl lp), a ∈ fp p ∨ a = fo ∨ H a = none) ∧ (∀ a ∈ wr (p.changed q d g t fo rs rws rl lp), a ∈ wr p ∨ H a = none) ∧ KpL (wr p) H H2 := by
  have c0 : ChgM H [p.st, p.y.pl] := fun a z => h.L.chg a (two_lown z)
  have S1 := h.S.kpL k1 c0 fun a z e => h.dj a z (two_lown e)
  have n10 : ∀ {a}, H1 a = none → H a = none := fun {a} z => k1.ne z fun e => by
    have := L1.dom (a := a) (two_lown (y := p.y.changed fo rs rws rl lp) e)
    exact this z
  have lin : ∀ a ∈ lown p.st (p.y.changed fo rs rws rl lp), a ∉ own p.s p.x := fun a z e => by
    rcases lown_changed lq.four z with z | z | z | z
    · exact h.dj a e z
    · exact hfo (z ▸ e)
    · exact h.S.dom e (z ▸ Hrl)
    · exact h.S.dom e (z ▸ lq.rl1)
  have oin : ∀ a ∈ own p.s (p.x.changed q d g t (again p.x g).R (again p.x g).n), a ∈ own p.s p.x ∨ H1 a = none := fun a z => by
    rcases own_changed pq.t z with z | z | z | z
    · exact .inl z
    · exact .inr (z ▸ ht)
    · exact .inr (z ▸ pq.la)
    · exact .inr (z ▸ pq.ls)
  refine ⟨⟨S2, L1.kpL k2 S1.chg fun a z e => lin a z e, h.ag.changed er lq.rws lq.R pq.g pq.R, fun a z e => ?_⟩, fun a z => ?_, fun a z => ?_, (k1.mono fun a z => List.mem_append_right _ z).trans (k2.mono fun a z => List.mem_append_left _ z)⟩
  · rcases oin a z with z | z
    · exact lin a e z
    · exact L1.dom e z
  · rcases List.mem_append.mp z with z | z
    · rcases oin a z with z | z
      · exact .inl (List.mem_append_left _ z)
      · exact .inr (.inr (n10 z))
    · rcases lown_changed lq.four z with z | z | z | z
      · exact .inl (List.mem_append_right _ z)
      · exact .inr (.inl z)
      · exact .inr (.inr (z ▸ Hrl))
      · exact .inr (.inr (z ▸ lq.rl1))
  · rcases List.mem_append.mp z with z | z
    · rcases oin a z with z | z
      · exact .inl (List.mem_append_left _ z)
      · exact .inr (n10 z)
    · exact .inl (List.mem_append_right _ z)
/-- how far a pair has gone: rows, turns, steps -/
structure Bd (p : Pr) (r n m : Nat) : Prop where
  R : p.x.R.length ≤ r
  q : ∀ q ∈ p.x.st, q.R.length ≤ r
  n : p.x.n ≤ n
  st : p.x.st.length ≤ m
  ps : p.y.ps.length ≤ m
theorem Bd.mono {r n m r' n' m' : Nat} (h : Bd p r n m) (a : r ≤ r') (b : n ≤ n') (c : m ≤ m') : Bd p r' n' m' :=
  ⟨Nat.le_trans h.R a, fun q z => Nat.le_trans (h.q q z) a, Nat.le_trans h.n b, Nat.le_trans h.st c, Nat.le_trans h.ps c⟩
theorem Bd.next {r n m : Nat} (h : Bd p r n m) {q : Pst} {R' : List Row3} {n' : Nat} {rl : Addr} {lp : Lp} {R2 : List Row2} {r2 n2 : Nat} (eq : q.R = p.x.R) (l1 : R'.length ≤ r2) (l0 : r ≤ r2) (l2 : n' ≤ n2) : Bd (p.next q R' n' rl lp R2) r2 n2 (m + 1) :=
  ⟨l1, fun q' z => by
    rcases List.mem_cons.mp z with rfl | z
    · rw [eq]; exact Nat.le_trans h.R l0
    · exact Nat.le_trans (h.q q' z) l0, l2, by have := h.st; show p.x.st.length + 1 ≤ _; omega, by have := h.ps; show p.y.ps.length + 1 ≤ _; omega⟩
theorem Bd.undone {r n m : Nat} (h : Bd p r n m) {q : Pst} {rest : List Pst} {lp : Lp} {lrest : List Lp} (e1 : p.x.st = q :: rest) (e2 : p.y.ps = lp :: lrest) : Bd (p.undone q rest lp lrest) r n m :=
  ⟨h.q q (by rw [e1]; exact List.mem_cons_self ..), fun q' z => h.q q' (by rw [e1]; exact List.mem_cons_of_mem _ z), h.n, by have := h.st; rw [e1] at this; exact Nat.le_of_succ_le this, by have := h.ps; rw [e2] at this; exact Nat.le_of_succ_le this⟩
theorem again_len {x : Sh} {g : Dg} : (again x g).R.length ≤ x.R.length := by
  have e : (prs (again x g).R).length = (again x g).R.length := List.length_map _
  rw [← e, prs_again]
  obtain ⟨l, _⟩ := lputs_len (f := mks g.s1) (ts := (prs x.R).map (·.2)) (z := ([], []))
  unfold lagain
  have : (prs x.R).length = x.R.length := List.length_map _
  rw [List.length_map, this] at l
  have l : _ ≤ 0 + _ := l
  omega
theorem Bd.changed {r n m : Nat} (h : Bd p r n m) {q : Pst} {d t fo : Addr} {g : Dg} {rs : List Addr} {rws : List (List Stp)} {rl : Addr} {lp : Lp} (eq : q.R = p.x.R) (gf : ∀ l, Good l → Good (mks g.s1 l)) (ok : RowsOk p.x.R p.x.n) : Bd (p.changed q d g t fo rs rws rl lp) r (n + r) (m + 1) := by
  have h1 := h.R
  have h2 := h.n
  have pk := puts_ok (f := mks g.s1) (ts := texts3 p.x.R) (R := []) (n := p.x.n) ⟨List.nodup_nil, List.Pairwise.nil, (fun _ h => nomatch h), fun _ h => nomatch h⟩ gf (fun l hl => by
    obtain ⟨r, hr, rfl⟩ := List.mem_map.mp hl
    exact (ok.good r hr).2) _ (Nat.le_refl _)
  rw [List.take_length] at pk
  have ln : (again p.x g).n ≤ p.x.n + (texts3 p.x.R).length := pk.le.2
  have lt : (texts3 p.x.R).length = p.x.R.length := List.length_map _
  refine ⟨Nat.le_trans again_len h1, fun q' z => ?_, by show (again p.x g).n ≤ _; omega, by have := h.st; show p.x.st.length + 1 ≤ _; omega, by have := h.ps; show p.y.ps.length + 1 ≤ _; omega⟩
  rcases List.mem_cons.mp z with rfl | z
  · rw [eq]; exact h1
  · exact h.q q' z
end
end Pd

set_option maxHeartbeats 4000000
namespace Pd
open PySem PySem.Spec PyProof.Rows L2 SX
theorem takesNone {X : Cx} : Takes X (fun _ _ _ _ => False) := fun _ _ x => by
  obtain ⟨_, _, _, _, _, _, _, _, _, _, _, _, _, _, _, _, z⟩ := x
  exact z.elim
/-- an own error over ValueError without an __init__ -/
structure ExV (K : PySem.W.Frag) (mg : Str → Option Value) (x : Str) (C : Addr) : Prop where
  g : mg x = some (.ref C)
  x : PySem.W.excIn K C [.type "ValueError", .type "Exception", .type "BaseException", .type "object"] "ValueError.__new__" = true
  k : PySem.W.keepIn K (.ref C) = true
  b : PySem.W.subIn K (.ref C) (.type "BaseException") = some true
  t : PySem.W.typeIn K (.ref C) = some (.type "type")
theorem exm_me {K : PySem.W.Frag} {C : Addr} (b : PySem.W.subIn K (.ref C) (.type "BaseException") = some true) (i : PySem.W.isClsIn K C = true) (t : PySem.W.typeIn K (.ref C) = some (.type "type")) (s : PySem.W.subIn K (.ref C) (.ref C) = some true) : PySem.W.exmOne K (.ref C) (.ref C) = some true := by
  have e : (PySem.W.clsIn K C).isSome = true := i
  simp [PySem.W.exmOne, PySem.W.kitCls, b, t, s, e]
/-- __call__ of any short text -/
def spFCallX (K : PySem.W.Frag) (C CN : Addr) : Sp := fun vs H Q E => ∃ (o r : Addr) (sts : List Stp) (l : List Nat), vs = [.ref o, .str (S l)] ∧ FoldAt K C H o r sts ∧ l.length ≤ 1000 ∧
  (goodB l = true → ∀ H', Ext H H' → Q (.str (S (mks sts l))) H') ∧ (goodB l = false → ∀ H', Ext H H' → E (.ref CN) none H')
def spRefused (K : PySem.W.Frag) (C : Addr) : Sp := fun vs H Q _ => ∃ (o r : Addr) (sts : List Stp) (l : List Nat), vs = [.ref o, .str (S l)] ∧ FoldAt K C H o r sts ∧ l.length ≤ 1000 ∧ ∀ H', Ext H H' → Q (.bl (!goodB l)) H'
/-- the call of a folding that may raise -/
structure FolX (P : Program) (w : World) (K : PySem.W.Frag) (mg : Str → Option Value) (base : Heap) (C CN : Addr) : Prop where
  call : ∃ (g : Addr) (fd : FuncData), StX.CallO K C g ∧ FnOk P w K mg base (L2.CX P w) 4 g fd ["self", "text"] (spFCallX K C CN) ∧ Binds K fd ["self", "text"] []
  gN : mg "NoText" = some (.ref CN)
  eN : PySem.W.exmOne K (.ref CN) (.ref CN) = some true
section
variable {P : Program} {w : World} {K : PySem.W.Frag} {mg : Str → Option Value} {base : Heap}
theorem ok_fcallX {f Cf CN : Addr} {fd : FuncData} (F : Fun K "__call__" "Folding.__call__" sFoldingCall f fd) (T : Nms mg) (Z : Fcl K mg Cf) (N : ExV K mg "NoText" CN) (G : Cl P w K mg base 1 "is_text" spIsText) (G2 : Cl P w K mg base 3 "made_by_steps" (spMadeSteps K)) :
    FnOk P w K mg base (L2.CX P w) 4 f fd ["self", "text"] (spFCallX K Cf CN) := by
  refine F.okX scFoldingCall (fun vs H Q E h => ?_) (fun cdv A outer s H vs Q E hr h => ?_)
  · obtain ⟨o, r, sts, l, rfl, _⟩ := h
    rfl
  · obtain ⟨o, r, sts, l, rfl, hF, hl, q1, q2⟩ := h
    refine ⟨_, pss_cons (ps_if (pt_not (pt_val (pe_cl G hr (by decide) rfl (pa_cons (pv 1) pa_nil)))) (pss_one (ps_raise rfl (takes_of rfl rfl rfl rfl) (pmk_own PySem.F.excBase_ValueError N.x N.g N.k (raises_own N.b N.t) (by exact rfl)))) pss_nil)
      (pss_one (ps_ret (pe_cl G2 hr (by decide) rfl (pa_cons (pe_fld (pv 0) rfl) (pa_cons (pv 1) pa_nil))))), ?_⟩
    refine ⟨_, rfl, l, rfl, hl, fun H2 k2 => ⟨_, rfl, ?_⟩⟩
    cases hg : goodB l with
    | true =>
      refine iteF ?_
      obtain ⟨⟨dx, e⟩, hR, h6⟩ := hF.ext k2
      exact ⟨_, rfl, o, Cf, dx, _, _, rfl, e, Z.cl, Z.nS, rfl, _, rfl, r, sts, l, rfl, hR, goodB_iff.mp hg, fun H3 k3 => q1 hg H3 (k2.trans k3)⟩
    | false => exact iteT (q2 hg H2 k2)
end
end Pd

set_option maxHeartbeats 4000000
namespace Pd
open PySem PySem.Spec PyProof.Rows L2 SX
/-! ### values that are no texts -/
theorem sqL_ty {K : PySem.W.Frag} {H : Hp} {a : Addr} {xs : List V} (h : SqL K H a xs) : TyX K H (.ref a) (.type "list") := by
  rcases h with (h | ⟨o, h⟩) | ⟨o, its, n, h, c, _⟩
  · exact .base (.lst h)
  · exact .base (.frz h)
  · exact .kList h c
inductive Wr (K : PySem.W.Frag) (H : Hp) : V → Prop where
  | non : Wr K H .non
  | int (i : Int) : Wr K H (.int i)
  | bl (b : Bool) : Wr K H (.bl b)
  | lst {a : Addr} {xs : List V} (h : SqL K H a xs) : Wr K H (.ref a)
  | tup {a : Addr} {xs : List V} (h : SqT K H a xs) : Wr K H (.ref a)
  | dct {a : Addr} {kvs : List (Key × V)} (h : H a = some (.dK kvs)) : Wr K H (.ref a)
  | str (l : List Nat) (hl : l.length ≤ 1000) (g : goodB l = false) : Wr K H (.str (S l))
theorem Wr.ext {K : PySem.W.Frag} {H H' : Hp} {x : V} (h : Wr K H x) (k : Ext H H') : Wr K H' x := by
  cases h with
  | non => exact .non
  | int i => exact .int i
  | bl b => exact .bl b
  | lst h => exact .lst (sqL_keep h fun o e => k _ o e)
  | tup h => exact .tup (sqT_keep h fun o e => k _ o e)
  | dct h => exact .dct (k _ _ h)
  | str l hl g => exact .str l hl g
/-- no string at all -/
def NoStr (K : PySem.W.Frag) (H : Hp) (x : V) : Prop := ∃ t : String, TyX K H x (.type t) ∧ kitB t "str" = some false
theorem Wr.no {K : PySem.W.Frag} {H : Hp} {x : V} (h : Wr K H x) : NoStr K H x ∨ ∃ l, x = .str (S l) ∧ l.length ≤ 1000 ∧ goodB l = false := by
  cases h with
  | non => exact .inl ⟨_, .base .non, by decide +kernel⟩
  | int i => exact .inl ⟨_, .base (.int i), by decide +kernel⟩
  | bl b => exact .inl ⟨_, .base (.bl b), by decide +kernel⟩
  | lst h => exact .inl ⟨_, sqL_ty h, by decide +kernel⟩
  | tup h => exact .inl ⟨_, sqT_ty h, by decide +kernel⟩
  | dct h => exact .inl ⟨_, .base (.dK h), by decide +kernel⟩
  | str l hl g => exact .inr ⟨l, rfl, hl, g⟩
theorem fnOk_or {P : Program} {w : World} {K : PySem.W.Frag} {mg : Str → Option Value} {base : Heap} {CX : CXT} {k : Nat} {f : Addr} {fd : FuncData} {ps : List Str} {sp sp1 sp2 : Sp} (F1 : FnOk P w K mg base CX k f fd ps sp1) (F2 : FnOk P w K mg base CX k f fd ps sp2)
    (h : ∀ vs H Q E, sp vs H Q E → sp1 vs H Q E ∨ sp2 vs H Q E) : FnOk P w K mg base CX k f fd ps sp :=
  ⟨fun vs H Q E x => (h vs H Q E x).elim (F1.len vs H Q E) (F2.len vs H Q E), fun A outer s H args us vs Q E hr e0 hb r x => (h vs H Q E x).elim (F1.run A outer s H args us vs Q E hr e0 hb r) (F2.run A outer s H args us vs Q E hr e0 hb r)⟩
def spNoStr (K : PySem.W.Frag) : Sp := fun vs H Q _ => ∃ x, vs = [x] ∧ NoStr K H x ∧ Q (.bl false) H
def spIsTextW (K : PySem.W.Frag) : Sp := fun vs H Q _ => ∃ x, vs = [x] ∧ Wr K H x ∧ ∀ H', Ext H H' → Q (.bl false) H'
def spFCallW (K : PySem.W.Frag) (C CN : Addr) : Sp := fun vs H _ E => ∃ (o : Addr) (x : V), vs = [.ref o, x] ∧ Wr K H x ∧ ∀ H', Ext H H' → E (.ref CN) none H'
def spFInW (K : PySem.W.Frag) : Sp := fun vs H Q _ => ∃ (o : Addr) (x : V), vs = [.ref o, x] ∧ Wr K H x ∧ ∀ H', Ext H H' → Q (.bl false) H'
section
variable {P : Program} {w : World} {K : PySem.W.Frag} {mg : Str → Option Value} {base : Heap}
theorem ok_isTextN {f : Addr} {fd : FuncData} (F : Fun K "is_text" "is_text" sIsText f fd) (T : Nms mg) (C : Cst mg) : FnOk P w K mg base CX0 1 f fd ["value"] (spNoStr K) := by
  refine F.ok scIsText (fun vs H Q E h => ?_) (fun cdv A outer s H vs Q E hr h => ?_)
  · obtain ⟨x, rfl, _⟩ := h
    rfl
  · obtain ⟨x, rfl, ⟨t, ty, kb⟩, q⟩ := h
    have nd := scIsText.nd
    obtain ⟨tc, hc⟩ := C.chars
    obtain ⟨tm, hm⟩ := C.most
    refine ⟨_, pss_cons (ps_if (PW.pt (pw_or (pt_not (pt_val (pe_callB call_isi (by rfl) T.isi (by decide +kernel) (pa_cons (pv 0) (pa_cons (pe_bltn (v := .ty "str") (by rfl) T.str (by decide +kernel) rfl) pa_nil)))))
        (pw_or1 (pt_cmpR op_gt (pe_callB call_len_str (by rfl) T.len PySem.boot_len (pa_cons (pv 0) pa_nil)) (pe_glob (v := .int 60) rfl hm ⟨_, rfl⟩) (nomark _))))) (pss_one (ps_ret pe_bl)) pss_nil)
      (pss_one (ps_ret (pe_callB (cr_all rfl) (by rfl) T.all (by decide +kernel) (pa_cons (pe_lc (own := [("character", 1)]) (g := gName 1) (tt := tYes) rfl nd (pi_str (pv 0)) (blkOk_by (N := ["value", "character"]) (sc := defScope sIsText) (by decide +kernel)) (fun _ _ _ _ _ => pg_name (i := 1) nd rfl (Or.inl rfl)) (fun _ _ _ _ _ => pts_nil)
          (fun _ _ _ _ _ => pe_cmpR op_in_sign (pv 1) (pe_glob (v := .str _) rfl hc ⟨_, rfl⟩) rfl)) pa_nil)))), ?_⟩
    exact ⟨_, rfl, _, _, _, _, false, rfl, .ty "str", ty, kit_ty kb, false, rfl, iteT (iteT q)⟩
theorem ok_isTextW {f : Addr} {fd : FuncData} (F : Fun K "is_text" "is_text" sIsText f fd) (T : Nms mg) (C : Cst mg) : FnOk P w K mg base CX0 1 f fd ["value"] (spIsTextW K) :=
  fnOk_or (ok_isText F T C) (ok_isTextN F T C) fun vs H Q E ⟨x, e, h, q⟩ => by
    subst e
    rcases h.no with n | ⟨l, rfl, hl, g⟩
    · exact .inr ⟨x, rfl, n, q H .refl⟩
    · exact .inl ⟨l, rfl, hl, fun H' k => by rw [g]; exact q H' k⟩
theorem ok_fcallW {f Cf CN : Addr} {fd : FuncData} (F : Fun K "__call__" "Folding.__call__" sFoldingCall f fd) (T : Nms mg) (Z : Fcl K mg Cf) (N : ExV K mg "NoText" CN) (G : Cl P w K mg base 1 "is_text" (spIsTextW K)) (G2 : Cl P w K mg base 3 "made_by_steps" (spMadeSteps K)) :
    FnOk P w K mg base (L2.CX P w) 4 f fd ["self", "text"] (spFCallW K Cf CN) := by
  refine F.okX scFoldingCall (fun vs H Q E h => ?_) (fun cdv A outer s H vs Q E hr h => ?_)
  · obtain ⟨o, x, rfl, _⟩ := h
    rfl
  · obtain ⟨o, x, rfl, hx, q⟩ := h
    refine ⟨_, pss_cons (ps_if (pt_not (pt_val (pe_cl G hr (by decide) rfl (pa_cons (pv 1) pa_nil)))) (pss_one (ps_raise rfl (takes_of rfl rfl rfl rfl) (pmk_own PySem.F.excBase_ValueError N.x N.g N.k (raises_own N.b N.t) (by exact rfl)))) pss_nil)
      (pss_one (ps_ret (pe_cl G2 hr (by decide) rfl (pa_cons (pe_fld (pv 0) rfl) (pa_cons (pv 1) pa_nil))))), ?_⟩
    exact ⟨_, rfl, x, rfl, hx, fun H2 k2 => ⟨_, rfl, iteT (q H2 k2)⟩⟩
theorem ok_finW {f Cf : Addr} {fd : FuncData} (F : Fun K "__contains__" "Folding.__contains__" sFoldingContains f fd) (T : Nms mg) (Z : Fcl K mg Cf) (G : Cl P w K mg base 1 "is_text" (spIsTextW K)) (G2 : Cl P w K mg base 3 "made_by_steps" (spMadeSteps K)) :
    FnOk P w K mg base CX0 4 f fd ["self", "x"] (spFInW K) := by
  refine F.ok scFoldingContains (fun vs H Q E h => ?_) (fun cdv A outer s H vs Q E hr h => ?_)
  · obtain ⟨o, x, rfl, _⟩ := h
    rfl
  · obtain ⟨o, x, rfl, hx, q⟩ := h
    refine ⟨_, pss_one (ps_ret (pe_and (pe_cl G hr (by decide) rfl (pa_cons (pv 1) pa_nil)) (pe_one (pe_cmpR op_eq (pe_cl G2 hr (by decide) rfl (pa_cons (pe_fld (pv 0) rfl) (pa_cons (pv 1) pa_nil))) (pv 1) (nomark _))))), ?_⟩
    exact ⟨_, rfl, x, rfl, hx, fun H2 k2 => ⟨_, rfl, iteF (q H2 k2)⟩⟩
end
end Pd

set_option maxHeartbeats 4000000
namespace Pd
open PySem PySem.Spec PyProof.Rows L2 SX
/-! ### values that are no texts, at a shelf -/
/-- a def that may raise -/
structure ClE (P : Program) (w : World) (K : PySem.W.Frag) (mg : Str → Option Value) (base : Heap) (k : Nat) (x : Str) (sp : Sp) : Prop where
  ex : ∃ (f : Addr) (fd : FuncData) (ps : List Str), FnOk P w K mg base (L2.CX P w) k f fd ps sp ∧ mg x = some (.ref f) ∧ PySem.W.keepIn K (.ref f) = true ∧ Binds K fd ps []
theorem pe_clE {X : Cx} {k j : Nat} {x : Str} {sp : Sp} {e : Expr} {es : List Expr} {t : TA} {p pos : Pos} {W : WX} (c : ClE X.prog X.w X.K X.mg X.base k x sp) (hr : Room j X.A) (hk : k ≤ j) (hg : Gl X x) (tk : Takes X W) (ha : PA X (e :: es) t)
    (hdb : (x == ("__debug__" : Str)) = false := by decide) (he : starEach (e :: es) X.env = (false, eval e X.env) :: starEach es X.env := by rfl) (hpl : (backTo pos (starEach es X.env)).any (·.1) = false := by rfl) :
    PE X (.Call (.Name x p) (e :: es) [] pos) (tCallS sp (WE W) t) := by
  obtain ⟨f, fd, ps, F, hm, kp, b⟩ := c.ex
  exact pe_callS F (hr.mono hk) hg hm kp b (fun σ => passAt tk σ) ha hdb he hpl
/-- a text, or what is none -/
inductive Tx (K : PySem.W.Frag) (H : Hp) : V → Bool → Prop where
  | good (l : List Nat) (g : Good l) : Tx K H (.str (S l)) true
  | bad {x : V} (h : Wr K H x) : Tx K H x false
def spIsTextX (K : PySem.W.Frag) : Sp := fun vs H Q _ => ∃ x b, vs = [x] ∧ Tx K H x b ∧ ∀ H', Ext H H' → Q (.bl b) H'
def spCheckTX (K : PySem.W.Frag) (CN : Addr) : Sp := fun vs H Q E => ∃ x b, vs = [x] ∧ Tx K H x b ∧ (b = true → ∀ H', Ext H H' → Q .non H') ∧ (b = false → ∀ H', Ext H H' → E (.ref CN) none H')
section
variable {P : Program} {w : World} {K : PySem.W.Frag} {mg : Str → Option Value} {base : Heap}
theorem ok_isTextX {f : Addr} {fd : FuncData} (F : Fun K "is_text" "is_text" sIsText f fd) (T : Nms mg) (C : Cst mg) : FnOk P w K mg base CX0 1 f fd ["value"] (spIsTextX K) :=
  fnOk_or (ok_isText F T C) (ok_isTextN F T C) fun vs H Q E ⟨x, b, e, h, q⟩ => by
    subst e
    cases h with
    | good l g => exact .inl ⟨l, rfl, by have := g.2; omega, fun H' k => by rw [goodB_of g]; exact q H' k⟩
    | bad h =>
      rcases h.no with n | ⟨l, rfl, hl, g⟩
      · exact .inr ⟨x, rfl, n, q H .refl⟩
      · exact .inl ⟨l, rfl, hl, fun H' k => by rw [g]; exact q H' k⟩
theorem ok_checkTX {f CN : Addr} {fd : FuncData} (F : Fun K "_check_text" "_check_text" sCheckText f fd) (N : ExV K mg "NoText" CN) (G : Cl P w K mg base 1 "is_text" (spIsTextX K)) : FnOk P w K mg base (L2.CX P w) 2 f fd ["value"] (spCheckTX K CN) := by
  refine F.okX scCheckText (fun vs H Q E h => ?_) (fun cdv A outer s H vs Q E hr h => ?_)
  · obtain ⟨x, b, rfl, _⟩ := h
    rfl
  · obtain ⟨x, b, rfl, hx, q1, q2⟩ := h
    refine ⟨_, pss_one (ps_if (pt_not (pt_val (pe_cl G hr (by decide) rfl (pa_cons (pv 0) pa_nil)))) (pss_one (ps_raise rfl (takes_of rfl rfl rfl rfl) (pmk_own PySem.F.excBase_ValueError N.x N.g N.k (raises_own N.b N.t) (by exact rfl)))) pss_nil), ?_⟩
    refine ⟨_, rfl, x, b, rfl, hx, fun H2 k2 => ⟨_, rfl, ?_⟩⟩
    cases b with
    | true => exact iteF (q1 rfl H2 k2)
    | false => exact iteT (q2 rfl H2 k2)
end
end Pd

set_option maxHeartbeats 4000000
namespace Pd
open PySem PySem.Spec PyProof.Rows L2 SX
def spCheckTsX (K : PySem.W.Frag) (CN : Addr) : Sp := fun vs H _ E => ∃ a ts x rest, vs = [.ref a] ∧ H a = some (.lst (txV ts ++ x :: rest)) ∧ (∀ t ∈ ts, Good t) ∧ Wr K H x ∧ ∀ H', Ext H H' → E (.ref CN) none H'
section
variable {P : Program} {w : World} {K : PySem.W.Frag} {mg : Str → Option Value} {base : Heap}
theorem ok_checkTsX {f CN : Addr} {fd : FuncData} (F : Fun K "_check_texts" "_check_texts" sCheckTexts f fd) (T : Nms mg) (ml : mg "list" = none) (G : ClE P w K mg base 2 "_check_text" (spCheckTX K CN)) : FnOk P w K mg base (L2.CX P w) 3 f fd ["value"] (spCheckTsX K CN) := by
  refine F.okX scCheckTexts (fun vs H Q E h => ?_) (fun cdv A outer s H vs Q E hr h => ?_)
  · obtain ⟨a, ts, x, rest, rfl, _⟩ := h
    rfl
  · obtain ⟨a, ts, x, rest, rfl, ha, hg, hx, q⟩ := h
    have nd := scCheckTexts.nd
    refine ⟨_, pss_cons (ps_if (pt_not (pt_val (pe_callB call_isi (by rfl) T.isi (by decide +kernel) (pa_cons (pv 0) (pa_cons (pe_bltn (v := .ty "list") (by rfl) ml (by decide +kernel) rfl) pa_nil))))) pss_never pss_nil)
      (pss_one (ps_for (passes_of rfl) rfl (pi_list (pv 0)) (pg_name (i := 1) nd rfl (Or.inl rfl)) (pss_one (ps_expr (pe_clE G hr (by decide) rfl (takes_of rfl rfl rfl rfl) (pa_cons (pv 1) pa_nil)))))), ?_⟩
    refine ⟨_, rfl, _, _, _, _, true, rfl, .ty "list", .base (.lst ha), kit_ty (by decide +kernel), true, rfl, iteF ?_⟩
    have lt : (txV ts).length = ts.length := List.length_map _
    refine ⟨_, rfl, a, rfl, ⟨_, SqL.of ha⟩, for_list (xs := txV ts ++ x :: rest) (fun i σ H' => ∃ u, σ = [some (.ref a), u] ∧ Ext H H' ∧ i ≤ ts.length) ⟨none, rfl, .refl, Nat.zero_le _⟩ (fun i σ H' _ p => by
      obtain ⟨u, _, k, _⟩ := p
      exact SqL.of (k a _ ha)) ?_ ?_⟩
    · rintro i y σ H2 hy ⟨u, rfl, k2, hi⟩
      by_cases e : i < ts.length
      · rw [List.getElem?_append_left (by rw [lt]; exact e)] at hy
        unfold txV at hy
        rw [List.getElem?_map] at hy
        obtain ⟨t, ht, rfl⟩ := Option.map_eq_some_iff.mp hy
        exact ⟨_, rfl, _, true, rfl, .good t (hg t (List.mem_of_getElem? ht)), fun _ H3 k3 => ⟨_, rfl, k2.trans k3, e⟩, fun z => Bool.noConfusion z⟩
      · have ei : i = ts.length := by omega
        subst ei
        rw [List.getElem?_append_right (by rw [lt]; exact Nat.le_refl _), lt, Nat.sub_self] at hy
        obtain rfl : x = y := by simpa using hy
        exact ⟨_, rfl, x, false, rfl, .bad (hx.ext k2), fun z => Bool.noConfusion z, fun _ H3 k3 => q H3 (k2.trans k3)⟩
    · rintro σ H2 ⟨u, rfl, k2, hi⟩
      rw [List.length_append, lt] at hi
      exact absurd hi (by show ¬ _ + (rest.length + 1) ≤ _; omega)
end
end Pd

set_option maxHeartbeats 4000000
namespace Pd
open PySem PySem.Spec PyProof.Rows L2 SX
/-- a method that may raise -/
structure MtE (P : Program) (w : World) (K : PySem.W.Frag) (mg : Str → Option Value) (base : Heap) (C : Addr) (k : Nat) (m : Str) (ps : List Str) (sp : Sp) : Prop where
  ex : ∃ (g : Addr) (fd : FuncData), Meth K C m g ∧ FnOk P w K mg base (L2.CX P w) k g fd ps sp ∧ Binds K fd ps []
def spPutAllX (K : PySem.W.Frag) (CN CS : Addr) : Sp := fun vs H _ E => ∃ s a ts x rest, vs = [.ref s, .ref a] ∧ H a = some (.lst (txV ts ++ x :: rest)) ∧ (∀ t ∈ ts, Good t) ∧ Wr K H x ∧ ∀ H', Ext H H' → E (.ref CN) none H'
def spWrong (K : PySem.W.Frag) (CN CS : Addr) : Sp := fun vs H _ E => ∃ s dx d t n p x, vs = [.ref s, x] ∧ H s = some (.ins CS dx (shF d t n p)) ∧ Wr K H x ∧ ∀ H', Ext H H' → E (.ref CN) none H'
def spSInX (K : PySem.W.Frag) (CS : Addr) : Sp := fun vs H Q _ => ∃ s x, vs = [.ref s, x] ∧ Wr K H x ∧ ∀ H', Ext H H' → Q (.bl false) H'
section
variable {P : Program} {w : World} {K : PySem.W.Frag} {mg : Str → Option Value} {base : Heap}
theorem ok_sputAllX {f CN CS : Addr} {fd : FuncData} (F : Fun K "put_all" "Shelf.put_all" sShelfPutAll f fd) (G : ClE P w K mg base 3 "_check_texts" (spCheckTsX K CN)) : FnOk P w K mg base (L2.CX P w) 4 f fd ["self", "texts"] (spPutAllX K CN CS) := by
  refine F.okX scShelfPutAll (fun vs H Q E h => ?_) (fun cdv A outer s H vs Q E hr h => ?_)
  · obtain ⟨s, a, ts, x, rest, rfl, _⟩ := h
    rfl
  · obtain ⟨s, a, ts, x, rest, rfl, ha, hg, hx, q⟩ := h
    refine ⟨_, pss_cons (ps_expr (pe_clE G hr (by decide) rfl (takes_of rfl rfl rfl rfl) (pa_cons (pv 1) pa_nil))) pss_never, ?_⟩
    exact ⟨_, rfl, a, ts, x, rest, rfl, ha, hg, hx, q⟩
theorem ok_sfindX {f CN CS : Addr} {fd : FuncData} (F : Fun K "find" "Shelf.find" sShelfFind f fd) (G : ClE P w K mg base 2 "_check_text" (spCheckTX K CN)) : FnOk P w K mg base (L2.CX P w) 3 f fd ["self", "text"] (spWrong K CN CS) := by
  refine F.okX scShelfFind (fun vs H Q E h => ?_) (fun cdv A outer s H vs Q E hr h => ?_)
  · obtain ⟨s, dx, d, t, n, p, x, rfl, _⟩ := h
    rfl
  · obtain ⟨s, dx, d, t, n, p, x, rfl, _, hx, q⟩ := h
    refine ⟨_, pss_cons (ps_expr (pe_clE G hr (by decide) rfl (takes_of rfl rfl rfl rfl) (pa_cons (pv 1) pa_nil))) pss_never, ?_⟩
    exact ⟨_, rfl, x, false, rfl, .bad hx, fun z => Bool.noConfusion z, fun _ => q⟩
theorem ok_sstrikeX {f CN CS : Addr} {fd : FuncData} (F : Fun K "strike" "Shelf.strike" sShelfStrike f fd) (G : ClE P w K mg base 2 "_check_text" (spCheckTX K CN)) : FnOk P w K mg base (L2.CX P w) 3 f fd ["self", "text"] (spWrong K CN CS) := by
  refine F.okX scShelfStrike (fun vs H Q E h => ?_) (fun cdv A outer s H vs Q E hr h => ?_)
  · obtain ⟨s, dx, d, t, n, p, x, rfl, _⟩ := h
    rfl
  · obtain ⟨s, dx, d, t, n, p, x, rfl, _, hx, q⟩ := h
    refine ⟨_, pss_cons (ps_expr (pe_clE G hr (by decide) rfl (takes_of rfl rfl rfl rfl) (pa_cons (pv 1) pa_nil))) pss_never, ?_⟩
    exact ⟨_, rfl, x, false, rfl, .bad hx, fun z => Bool.noConfusion z, fun _ => q⟩
theorem ok_sputX {f CN CS : Addr} {fd : FuncData} (F : Fun K "put" "Shelf.put" sShelfPut f fd) (Z : Scl K mg CS) (M : MtE P w K mg base CS 4 "put_all" ["self", "texts"] (spPutAllX K CN CS)) : FnOk P w K mg base (L2.CX P w) 5 f fd ["self", "text"] (spWrong K CN CS) := by
  refine F.okX scShelfPut (fun vs H Q E h => ?_) (fun cdv A outer s H vs Q E hr h => ?_)
  · obtain ⟨s, dx, d, t, n, p, x, rfl, _⟩ := h
    rfl
  · obtain ⟨s, dx, d, t, n, p, x, rfl, e, hx, q⟩ := h
    obtain ⟨g, fdg, m1, F1, b1⟩ := M.ex
    refine ⟨_, pss_one (ps_ret (pe_ix ix_list (pe_methX (pv 0) Z.cl m1 F1 (hr.mono (by decide)) b1 (fun σ => passAt (takes_of rfl rfl rfl rfl) σ) (pa_cons (pe_lst (pa_cons (pv 1) pa_nil)) pa_nil)) pe_int (fun _ _ => rfl))), ?_⟩
    refine ⟨_, rfl, s, dx, _, rfl, e, rfl, _, rfl, by show 1 ≤ sizeLine; decide, fun a ha => ?_⟩
    have k : Ext H (upd H a (.lst [x])) := Ext.refl.new ha
    exact ⟨s, a, [], x, [], rfl, upd_same, (fun _ h => nomatch h), hx.ext k, fun H' k' => q H' (k.trans k')⟩
theorem ok_sinX {f C CD CS : Addr} {fd : FuncData} (F : Fun K "__contains__" "Shelf.__contains__" sShelfContains f fd) (Z : Scl K mg CS) (Y : Drs P w K mg base CD) (X : FolS P w K mg base C) (G1 : Cl P w K mg base 1 "is_text" (spIsTextX K)) (G : Cl P w K mg base 3 "made_by_steps" (spMadeSteps K)) : FnOk P w K mg base CX0 4 f fd ["self", "x"] (spSInX K CS) := by
  refine F.ok scShelfContains (fun vs H Q E h => ?_) (fun cdv A outer s H vs Q E hr h => ?_)
  · obtain ⟨s, x, rfl, _⟩ := h
    rfl
  · obtain ⟨s, x, rfl, hx, q⟩ := h
    have hu := hu_of hr
    obtain ⟨g1, fd1, m1, F1, b1⟩ := Y.find
    obtain ⟨gs, fds, ms, FS, bS⟩ := X.steps
    refine ⟨_, pss_one (ps_ret (pe_and (pe_cl G1 hr (by decide) rfl (pa_cons (pv 1) pa_nil)) (pe_one (pe_cmp (pc_din hu (pe_cl G hr (by decide) rfl (pa_cons (pe_meth0 (pe_meth0 (pe_fld (pv 0) rfl) Y.z.cl m1 F1 (hr.mono (by decide)) b1 .nil pass0) X.cl ms FS (hr.mono (by decide)) bS .nil pass0) (pa_cons (pv 1) pa_nil))) (pe_fld (pv 0) rfl)) rfl)))), ?_⟩
    exact ⟨_, rfl, x, false, rfl, .bad hx, fun H2 k2 => ⟨_, rfl, iteF (q H2 k2)⟩⟩
end
end Pd

set_option maxHeartbeats 4000000
namespace Pd
open PySem PySem.Spec PyProof.Rows L2 SX
/-! ### undo where nothing is left -/
def spSUndoX (K : PySem.W.Frag) (CU CS : Addr) : Sp := fun vs H _ E => ∃ s dx d t n p, vs = [.ref s] ∧ H s = some (.ins CS dx (shF d t n p)) ∧ H p = some (.lst []) ∧ ∀ H', Ext H H' → E (.ref CU) none H'
section
variable {P : Program} {w : World} {K : PySem.W.Frag} {mg : Str → Option Value} {base : Heap}
theorem ok_sundoX {f CU CS : Addr} {fd : FuncData} (F : Fun K "undo" "Shelf.undo" sShelfUndo f fd) (Z : Scl K mg CS) (N : ExV K mg "NothingToUndo" CU) : FnOk P w K mg base (L2.CX P w) 1 f fd ["self"] (spSUndoX K CU CS) := by
  refine F.okX scShelfUndo (fun vs H Q E h => ?_) (fun cdv A outer s H vs Q E hr h => ?_)
  · obtain ⟨s, dx, d, t, n, p, rfl, _⟩ := h
    rfl
  · obtain ⟨s, dx, d, t, n, p, rfl, e, hp, q⟩ := h
    refine ⟨_, pss_cons (ps_if (pt_not (pt_truth (pe_fld (pv 0) rfl) (fun _ => rfl))) (pss_one (ps_raise rfl (takes_of rfl rfl rfl rfl) (pmk_own PySem.F.excBase_ValueError N.x N.g N.k (raises_own N.b N.t) (by exact rfl)))) pss_nil) pss_never, ?_⟩
    refine ⟨_, rfl, s, CS, dx, _, _, rfl, e, Z.cl, Z.n4, rfl, false, .inl ⟨_, SqL.of hp, by simp⟩, ?_⟩
    exact iteT (q H .refl)
end
end Pd

set_option maxHeartbeats 4000000
namespace Pd
open PySem PySem.Spec PyProof.Rows L2 SX
/-- o.m() of an own class where it may raise, in a try -/
theorem pe_methX0 {X : Cx} {CX : CXT} {k : Nat} {C g : Addr} {fd : FuncData} {ps : List Str} {m : Str} {sp : Sp} {E : L2.St → XK} {o : Expr} {ta : TE} {apos pos : Pos} {pl : Sem Bool} (he : PE X o ta) (c : Cls X.K C) (hm : Meth X.K C m g)
    (F : FnOk X.prog X.w X.K X.mg X.base CX k g fd ps sp) (hr : Room k X.A) (hb : Binds X.K fd ps []) (hx : ∀ σ, PassesAt CX X σ (E σ))
    (ht : eval (.Call (.Attribute o m apos) [] [] pos) X.env = (do let ov ← eval o X.env; standAt apos.atName; let (f, first) ← holding [ov] (getMethod ov m pl); callWith pos f first (backTo pos (starEach [] X.env)) (backToKw pos (keywordEach [] X.env))) := by rfl) :
    PE X (.Call (.Attribute o m apos) [] [] pos) (tMethX C m sp E ta tNil) := by
  constructor
  intro pins s σ H Q I h
  refine PySem.W.methodCall_KW (pl := pl) (thn (he.run pins s σ H _ I h) ?_) ht
  rintro u s1 ⟨x, H1, I1, rx, a, dx, fs, rfl, ea, l, q⟩
  cases (show u = Value.ref a from rx)
  refine getmeth_ok I1 ea c hm l ?_
  exact PySem.W.callWith_K0 (first := [.ref a]) I1.kIn hm.kp (run_fnS (us := [.ref a]) (vs := [.ref a]) F hr hb (hx σ) I1 (.cons rfl .nil) q)
end Pd

set_option maxHeartbeats 4000000
namespace Pd
open PySem PySem.Spec PyProof.Rows L2 SX
/-- the signs that no text has -/
def BAD : List Nat := [33, 34, 35, 36, 38, 40, 41, 42, 43, 44, 58, 59, 60, 61, 62, 63, 64, 91, 92, 93, 94, 96, 123, 124, 125, 126, 10, 9]
theorem bad_CH : ∀ c ∈ BAD, c ∉ CH := by decide
theorem goodB_bad {l : List Nat} {c : Nat} (h : c ∈ l) (n : c ∉ CH) : goodB l = false := by
  cases e : goodB l with
  | false => rfl
  | true => exact absurd ((goodB_iff.mp e).1 c h) n
theorem goodB_long {l : List Nat} (h : 60 < l.length) : goodB l = false := by
  cases e : goodB l with
  | false => rfl
  | true => exact absurd (goodB_iff.mp e).2 (by omega)
theorem Wr.kp {K : PySem.W.Frag} {H H' : Hp} {j : Addr} {x : V} (h : Wr K H x) (k : Kp j H H') (n : x ≠ .ref j) : Wr K H' x := by
  cases h with
  | non => exact .non
  | int i => exact .int i
  | bl b => exact .bl b
  | lst h => exact .lst (sqL_keep h fun o e => k _ o (by rintro rfl; exact n rfl) e)
  | tup h => exact .tup (sqT_keep h fun o e => k _ o (by rintro rfl; exact n rfl) e)
  | dct h => exact .dct (k _ _ (by rintro rfl; exact n rfl) h)
  | str l hl g => exact .str l hl g
theorem atI_in {xs : List V} {r : Int} (h0 : 0 ≤ r) (h1 : r < (xs.length : Nat)) : ∃ x ∈ xs, atI xs r = some x := by
  obtain ⟨m, rfl⟩ := Int.eq_ofNat_of_zero_le h0
  have hm : m < xs.length := by omega
  exact ⟨xs[m], List.getElem_mem hm, atI_nat (List.getElem?_eq_getElem hm)⟩
theorem fold_len (x : List Nat) : ∀ (k : Nat) (acc : Array Nat), ((List.replicate k x.toArray).foldl (· ++ ·) acc).size = acc.size + k * x.length
  | 0, acc => by simp
  | k + 1, acc => by
    rw [List.replicate_succ, List.foldl_cons, fold_len x k, Array.size_append, Nat.add_one_mul]
    simp
    omega
/-- one sign, n times -/
theorem mul_one (c : Nat) {n : Int} (h0 : 1 ≤ n) (h1 : n ≤ 300) : ∃ m : List Nat, Txt.mul (S [c]) n = S m ∧ m.length = n.toNat := by
  obtain ⟨m, e, _, _⟩ := mul_S [c] (n := n) (by omega)
  refine ⟨m, e, ?_⟩
  have e2 : (Txt.mul (S [c]) n).length = n.toNat := by
    unfold Txt.mul
    rw [if_neg (by omega)]
    split
    · rename_i h
      have hn : n = 1 := by
        rcases Bool.or_eq_true_iff.mp h with h | h
        · exact beq_iff_eq.mp h
        · exact absurd h (by rw [S_len]; show ¬ ((1 : Nat) == 0) = true; decide)
      subst hn
      rfl
    · have := fold_len [c] n.toNat #[]
      show ((List.replicate n.toNat [c].toArray).foldl (· ++ ·) #[]).size = n.toNat
      rw [this]; simp
  rw [e, S_len] at e2
  exact e2
theorem mulOk_one {c : Nat} {n : Int} (h0 : 1 ≤ n) (h1 : n ≤ 300) : PySem.MulOk (S [c]) n := by
  refine ⟨?_, fun h2 _ => ?_, fun h2 _ => ?_⟩
  · rw [decide_eq_false (by omega), decide_eq_false (by omega)]; rfl
  · rw [S_len]
    intro h3
    have h6 : (([c].length : Nat) : Int) ≤ (2 ^ 63 - 1 : Int) / n := Int.le_ediv_of_mul_le (by omega) (by simp only [List.length_cons, List.length_nil]; omega)
    omega
  · rw [S_len]
    refine PyProof.Rows.short24 ?_
    show 1 * n.toNat ≤ _
    omega
def spNo (K : PySem.W.Frag) : Sp := fun vs H Q _ => ∃ (j r : Addr) (n : Nat) (l : List Nat) (xs : List V), vs = [.ref j, .str (S l), .ref r] ∧ JarAt H j n ∧ Good l ∧ SqT K H r xs ∧ r ≠ j ∧ n + 10 < 1000000 ∧
  ∀ x H', Wr K H' x → JarAt H' j (n + 5) → Kp j H H' → Q x H'
def spRefW (K : PySem.W.Frag) (C : Addr) : Sp := fun vs H Q _ => ∃ (o : Addr) (x : V), vs = [.ref o, x] ∧ InsP H o C ∧ Wr K H x ∧ ∀ H', Ext H H' → Q (.bl true) H'
/-- calls and in with values that are no texts -/
structure FolW (P : Program) (w : World) (K : PySem.W.Frag) (mg : Str → Option Value) (base : Heap) (C CN CP CS : Addr) : Prop where
  call : ∃ (g : Addr) (fd : FuncData), StX.CallO K C g ∧ FnOk P w K mg base (L2.CX P w) 4 g fd ["self", "text"] (spFCallW K C CN) ∧ Binds K fd ["self", "text"] []
  isin : ∃ (g : Addr) (fd : FuncData), PySem.W.findIn K (.ref C) "__contains__" = some (some (.ref g)) ∧ PySem.W.isFn K (.ref g) = true ∧ FnOk P w K mg base CX0 4 g fd ["self", "x"] (spFIn K C) ∧ FnOk P w K mg base CX0 4 g fd ["self", "x"] (spFInW K) ∧ Binds K fd ["self", "x"] []
  gP : mg "PlainError" = some (.ref CP)
  gN : mg "NoText" = some (.ref CN)
  gS : mg "NoStep" = some (.ref CS)
  gV : mg "ValueError" = none
  eP : PySem.W.exmOne K (.ref CN) (.ref CP) = some true
  ec : ExcC K CN
  kV : PySem.W.kitOne K (.ref CN) (.type "ValueError") = some true
  kS : PySem.W.kitOne K (.ref CN) (.ref CS) = some false
theorem kit_self {K : PySem.W.Frag} {C : Addr} : PySem.W.kitOne K (.ref C) (.ref C) = some true := by unfold PySem.W.kitOne; rw [if_pos (beq_self_eq_true _)]
/-- a block whose reading begins with a fact -/
theorem pss_if_fact {X : Cx} {sts : List Stmt} {t : TS} {p : Prop} (h : p → PSs X sts t) : PSs X sts (fun D σ H => p ∧ t D σ H) := by
  constructor
  intro pins s σ H D I ⟨hp, q⟩
  exact (h hp).run pins s σ H D I q
section
variable {P : Program} {w : World} {K : PySem.W.Frag} {mg : Str → Option Value} {base : Heap}
end
end Pd

set_option maxHeartbeats 4000000
namespace Pd
open PySem PySem.Spec PyProof.Rows L2 SX
/-! ### the law's tries -/
structure ShW (P : Program) (w : World) (K : PySem.W.Frag) (mg : Str → Option Value) (base : Heap) (CS CN CP CF CU : Addr) : Prop where
  put : MtE P w K mg base CS 5 "put" ["self", "text"] (spWrong K CN CS)
  find : MtE P w K mg base CS 3 "find" ["self", "text"] (spWrong K CN CS)
  strike : MtE P w K mg base CS 3 "strike" ["self", "text"] (spWrong K CN CS)
  undo : MtE P w K mg base CS 1 "undo" ["self"] (spSUndoX K CU CS)
  gN : mg "NoText" = some (.ref CN)
  gP : mg "PlainError" = some (.ref CP)
  gF : mg "NoForm" = some (.ref CF)
  gU : mg "NothingToUndo" = some (.ref CU)
  gV : mg "ValueError" = none
  eN : PySem.W.exmOne K (.ref CN) (.ref CN) = some true
  eP : PySem.W.exmOne K (.ref CN) (.ref CP) = some true
  eU : PySem.W.exmOne K (.ref CU) (.ref CU) = some true
  ec : ExcC K CN
  kV : PySem.W.kitOne K (.ref CN) (.type "ValueError") = some true
  kF : PySem.W.kitOne K (.ref CN) (.ref CF) = some false
  kU : PySem.W.kitOne K (.ref CN) (.ref CU) = some false
def spLRefused (K : PySem.W.Frag) (CS : Addr) : Sp := fun vs H Q _ => ∃ s i x d t n p, vs = [.ref s, .int i, x] ∧ InsAt CS H s d t n p ∧ Wr K H x ∧ ∀ H', Ext H H' → Q (.bl true) H'
def spLBased (K : PySem.W.Frag) (CS : Addr) : Sp := fun vs H Q _ => ∃ s x d t n p, vs = [.ref s, x] ∧ InsAt CS H s d t n p ∧ Wr K H x ∧ ∀ H', Ext H H' → Q (.bl true) H'
def spLNothing (CS : Addr) : Sp := fun vs H Q _ => ∃ s d t n p, vs = [.ref s] ∧ InsAt CS H s d t n p ∧ H p = some (.lst []) ∧ ∀ H', Ext H H' → Q (.bl true) H'
section
variable {P : Program} {w : World} {K : PySem.W.Frag} {mg : Str → Option Value} {base : Heap}
theorem ok_lrefused {f CS CN CP CF CU : Addr} {fd : FuncData} (F : Fun K "_law_refused" "_law_refused" sLawRefused f fd) (Z : Scl K mg CS) (X : ShW P w K mg base CS CN CP CF CU) : FnOk P w K mg base CX0 6 f fd ["shelf", "way", "thing"] (spLRefused K CS) := by
  refine F.ok scLawRefused (fun vs H Q E h => ?_) (fun cdv A outer s H vs Q E hr h => ?_)
  · obtain ⟨s, i, x, d, t, n, p, rfl, _⟩ := h
    rfl
  · obtain ⟨s, i, x, d, t, n, p, rfl, ⟨dx, e⟩, hx, q⟩ := h
    have nd := scLawRefused.nd
    obtain ⟨g1, fd1, m1, F1, b1⟩ := X.put.ex
    obtain ⟨g2, fd2, m2, F2, b2⟩ := X.find.ex
    obtain ⟨g3, fd3, m3, F3, b3⟩ := X.strike.ex
    refine ⟨_, pss_cons (ps_set (i := 3) nd rfl (Or.inl rfl) pe_bl)
      (pss_cons (ps_try_only (tb := fun W => tIfS (tTest (tOp rEq (tVar 1) (tC (.int 0)))) (tDrop (tMethX CS "put" (spWrong K CN CS) (WE W) (tVar 0) (tCons (tVar 2) tNil)))
            (tIfS (tTest (tOp rEq (tVar 1) (tC (.int 1)))) (tDrop (tMethX CS "find" (spWrong K CN CS) (WE W) (tVar 0) (tCons (tVar 2) tNil))) (tDrop (tMethX CS "strike" (spWrong K CN CS) (WE W) (tVar 0) (tCons (tVar 2) tNil)))))
          (ts := fun _ _ _ => tAsg (tC (.bl true)) (gName 3)) (Wout := fun _ _ _ _ => False) rfl rfl ⟨rfl, by decide, Or.inl X.gN⟩ takesNone
        (fun W pn xe tk _ => pss_one (ps_if (pt_cmpR op_eq (pv 1) pe_int (nomark _)) (pss_one (ps_expr (pe_methX (pv 0) Z.cl m1 F1 (hr.mono (by decide)) b1 (fun σ => passAt tk σ) (pa_cons (pv 2) pa_nil))))
          (pss_one (ps_if (pt_cmpR op_eq (pv 1) pe_int (nomark _)) (pss_one (ps_expr (pe_methX (pv 0) Z.cl m2 F2 (hr.mono (by decide)) b2 (fun σ => passAt tk σ) (pa_cons (pv 2) pa_nil))))
            (pss_one (ps_expr (pe_methX (pv 0) Z.cl m3 F3 (hr.mono (by decide)) b3 (fun σ => passAt tk σ) (pa_cons (pv 2) pa_nil))))))))
        (fun a oe cls d pn _ _ => pss_one (ps_set (i := 3) nd rfl (Or.inl rfl) pe_bl)))
      (pss_one (ps_ret (pv 3)))), ?_⟩
    refine ⟨_, rfl, rfl, _, rfl, ite2 (fun _ => ?_) (fun _ => ⟨_, rfl, rfl, _, rfl, ite2 (fun _ => ?_) (fun _ => ?_)⟩)⟩
    all_goals exact ⟨_, rfl, s, dx, _, rfl, e, rfl, _, rfl, s, dx, d, t, n, p, x, rfl, e, hx, fun H2 k2 => ⟨true, X.eN, fun _ a ha => ⟨_, rfl, q H2 k2⟩, fun q => Bool.noConfusion q⟩⟩
theorem ok_lbased {f CS CN CP CF CU : Addr} {fd : FuncData} (F : Fun K "_law_based" "_law_based" sLawBased f fd) (T : Nms mg) (Z : Scl K mg CS) (X : ShW P w K mg base CS CN CP CF CU) : FnOk P w K mg base CX0 6 f fd ["shelf", "thing"] (spLBased K CS) := by
  refine F.ok scLawBased (fun vs H Q E h => ?_) (fun cdv A outer s H vs Q E hr h => ?_)
  · obtain ⟨s, x, d, t, n, p, rfl, _⟩ := h
    rfl
  · obtain ⟨s, x, d, t, n, p, rfl, ⟨dx, e⟩, hx, q⟩ := h
    have nd := scLawBased.nd
    obtain ⟨g1, fd1, m1, F1, b1⟩ := X.put.ex
    refine ⟨_, pss_cons (ps_set (i := 2) nd rfl (Or.inl rfl) pe_bl)
      (pss_cons (ps_try_as (i := 3) (tb := fun W => tDrop (tMethX CS "put" (spWrong K CN CS) (WE W) (tVar 0) (tCons (tVar 1) tNil)))
          (ts := fun a cls d => fun D σ H => (cls = .ref CN ∧ d = none) ∧ tAsg (tAndV (tCB (rIsE K CN a) (tCons (tVar 3) (tCons (tC (.ty "ValueError")) tNil))) (tAndV (tNotV (tCB (rIsE K CN a) (tCons (tVar 3) (tCons (tC (.ref CF)) tNil)))) (tNotV (tCB (rIsE K CN a) (tCons (tVar 3) (tCons (tC (.ref CU)) tNil)))))) (gName 2) D σ H)
          (Wout := fun _ _ _ _ => False) rfl rfl nd rfl rfl ⟨rfl, by decide, Or.inl X.gP⟩ takesNone
        (fun W pn xe tk _ => pss_one (ps_expr (pe_methX (pv 0) Z.cl m1 F1 (hr.mono (by decide)) b1 (fun σ => passAt tk σ) (pa_cons (pv 1) pa_nil))))
        (fun a oe cls d pn hz hf => pss_if_fact fun ⟨e1, e2⟩ => by
          subst e1 e2
          exact pss_one (ps_set (i := 2) nd rfl (Or.inl rfl) (pe_and (pe_callB (call_isE X.ec hz hf) (by rfl) T.isi (by decide +kernel) (pa_cons (pv 3) (pa_cons (pe_bltn (v := .ty "ValueError") (by rfl) X.gV (by decide +kernel) rfl) pa_nil)))
            (pe_and (pe_not (pe_callB (call_isE X.ec hz hf) (by rfl) T.isi (by decide +kernel) (pa_cons (pv 3) (pa_cons (pe_glob (v := .ref CF) rfl X.gF rfl) pa_nil))))
            (pe_one (pe_not (pe_callB (call_isE X.ec hz hf) (by rfl) T.isi (by decide +kernel) (pa_cons (pv 3) (pa_cons (pe_glob (v := .ref CU) rfl X.gU rfl) pa_nil))))))))))
      (pss_one (ps_ret (pv 2)))), ?_⟩
    refine ⟨_, rfl, s, dx, _, rfl, e, rfl, _, rfl, s, dx, d, t, n, p, x, rfl, e, hx, fun H2 k2 => ⟨true, X.eP, fun _ a ha => ⟨⟨rfl, rfl⟩, ?_⟩, fun q => Bool.noConfusion q⟩⟩
    refine ⟨_, rfl, .ty "ValueError", .type "ValueError", true, rfl, fun u r => r, X.kV, true, rfl, iteT ?_⟩
    refine ⟨_, rfl, .ref CF, .ref CF, false, rfl, fun u r => r, X.kF, false, rfl, _, rfl, iteT ?_⟩
    refine ⟨_, rfl, .ref CU, .ref CU, false, rfl, fun u r => r, X.kU, false, rfl, ?_⟩
    exact ⟨_, rfl, q H2 k2⟩
theorem ok_lnothing {f CS CN CP CF CU : Addr} {fd : FuncData} (F : Fun K "_law_nothing" "_law_nothing" sLawNothing f fd) (Z : Scl K mg CS) (X : ShW P w K mg base CS CN CP CF CU) : FnOk P w K mg base CX0 2 f fd ["shelf"] (spLNothing CS) := by
  refine F.ok scLawNothing (fun vs H Q E h => ?_) (fun cdv A outer s H vs Q E hr h => ?_)
  · obtain ⟨s, d, t, n, p, rfl, _⟩ := h
    rfl
  · obtain ⟨s, d, t, n, p, rfl, ⟨dx, e⟩, hp, q⟩ := h
    have nd := scLawNothing.nd
    obtain ⟨g1, fd1, m1, F1, b1⟩ := X.undo.ex
    refine ⟨_, pss_cons (ps_set (i := 1) nd rfl (Or.inl rfl) pe_bl)
      (pss_cons (ps_try_only (tb := fun W => tDrop (tMethX CS "undo" (spSUndoX K CU CS) (WE W) (tVar 0) tNil))
          (ts := fun _ _ _ => tAsg (tC (.bl true)) (gName 1)) (Wout := fun _ _ _ _ => False) rfl rfl ⟨rfl, by decide, Or.inl X.gU⟩ takesNone
        (fun W pn xe tk _ => pss_one (ps_expr (pe_methX0 (pv 0) Z.cl m1 F1 (hr.mono (by decide)) b1 (fun σ => passAt tk σ))))
        (fun a oe cls d pn _ _ => pss_one (ps_set (i := 1) nd rfl (Or.inl rfl) pe_bl)))
      (pss_one (ps_ret (pv 1)))), ?_⟩
    exact ⟨_, rfl, s, dx, _, rfl, e, rfl, s, dx, d, t, n, p, rfl, e, hp, fun H2 k2 => ⟨true, X.eU, fun _ a ha => ⟨_, rfl, q H2 k2⟩, fun q => Bool.noConfusion q⟩⟩
end
end Pd

set_option maxHeartbeats 4000000
namespace Pd
open PySem PySem.Spec PyProof.Rows L2 SX
/-! ### values that are no texts, drawn -/
def BAD2 : List Nat := [44, 59, 58, 126, 33, 63, 64, 35, 36, 38, 42, 40, 41, 43, 61, 60, 62, 124, 91, 93, 123, 125, 94, 34, 92, 96, 10, 9]
theorem bad_CH2 : ∀ c ∈ BAD2, c ∉ CH := by decide
def spBad (K : PySem.W.Frag) : Sp := fun vs H Q _ => ∃ (j : Addr) (n : Nat) (l : List Nat), vs = [.ref j, .str (S l)] ∧ JarAt H j n ∧ Good l ∧ n + 10 < 1000000 ∧
  ∀ x H', Wr K H' x → (∀ a, x = .ref a → H a = none) → JarAt H' j (n + 3) → Kp j H H' → Q x H'
theorem kp_new {j : Addr} {n : Nat} {H H' : Hp} (J : JarAt H' j n) (k : Kp j H H') {a : Addr} (h : H' a = none) : H a = none := by
  cases e : H a with
  | none => rfl
  | some o =>
    by_cases z : a = j
    · obtain ⟨xs, ex⟩ := J.lst
      rw [z, ex] at h; cases h
    · rw [k a o z e] at h; cases h
section
variable {P : Program} {w : World} {K : PySem.W.Frag} {mg : Str → Option Value} {base : Heap}
theorem ok_lbad {f : Addr} {fd : FuncData} (F : Fun K "_law_bad_text" "_law_bad_text" sLawBadText f fd) (T : Nms mg) (D : Cl P w K mg base 1 "_law_draw" spDraw) : FnOk P w K mg base CX0 2 f fd ["well", "text"] (spBad K) := by
  refine F.ok scLawBadText (fun vs H Q E h => ?_) (fun cdv A outer s H vs Q E hr h => ?_)
  · obtain ⟨j, n, l, rfl, _⟩ := h
    rfl
  · obtain ⟨j, n, l, rfl, hJ, hl, hn, q⟩ := h
    have nd := scLawBadText.nd
    refine ⟨_, pss_cons (ps_set (i := 2) nd rfl (Or.inl rfl) pe_str)
      (pss_cons (ps_par (i := 3) (j := 4) (by rfl) nd rfl rfl (by decide) rfl rfl (pa_cons (pe_cl D hr (by decide) rfl (pa_cons (pv 0) (pa_cons pe_int pa_nil)))
        (pa_cons (pe_ix ix_str (pv 2) (pe_cl D hr (by decide) rfl (pa_cons (pv 0) (pa_cons (pe_callB call_len_str (by rfl) T.len PySem.boot_len (pa_cons (pv 2) pa_nil)) pa_nil))) (fun _ _ => rfl)) pa_nil)) (by rfl))
      (pss_cons (ps_set (i := 5) nd rfl (Or.inl rfl) (pe_slice C8.sl_txt (pv 1) po_none (po_some pe_int)))
      (pss_cons (ps_set (i := 6) nd rfl (Or.inl rfl) (pe_lst (pa_cons pe_non (pa_cons pe_int (pa_cons pe_bl (pa_cons (pe_lst pa_nil) (pa_cons (pe_tup pa_nil) (pa_cons pe_dnewK (pa_cons (pe_lst (pa_cons (pv 1) pa_nil)) (pa_cons (pe_tup (pa_cons (pv 1) pa_nil))
        (pa_cons (pe_slice C8.sl_txt (pe_op op_add_str (pv 1) (pe_op op_mulS pe_str pe_int)) po_none (po_some pe_int)) (pa_cons (pe_op op_mulS pe_str pe_int) (pa_cons (pv 4) (pa_cons (pe_op op_add_str pe_str (pv 4)) pa_nil))))))))))))))
      (pss_cons (ps_expr (pe_bm PySem.F.plainAttrs_list PySem.F.slot_list_append PySem.F.type_list_append mt_append (pv 6) (pa_cons (pe_op op_add_str (pe_op op_add_str (pe_slice C8.sl_txt (pv 5) po_none (po_some (pv 3))) (pv 4)) (pe_slice C8.sl_txt (pv 5) (po_some (pv 3)) po_none)) pa_nil)))
      (pss_one (ps_ret (pe_ix ix_list (pv 6) (pe_cl D hr (by decide) rfl (pa_cons (pv 0) (pa_cons pe_int pa_nil))) (fun _ _ => rfl)))))))), ?_⟩
    have eB : (",;:~!?\x40#$&*()+=<>|[]{}^\"\\`\n\t" : Str) = S BAD2 := by decide +kernel
    have lenB : (S BAD2).length = 28 := rfl
    have lS : ∀ m : List Nat, m.length ≤ 1000 → (S m).length ≤ sizeLine := fun m h => by rw [S_len, sizeLine_eq]; omega
    have h60 := hl.2
    refine ⟨_, rfl, j, 60, n, rfl, hJ, by omega, by decide, by decide, fun sp H1 h0 h1 J1 k1 => ?_⟩
    refine ⟨_, rfl, _, rfl, _, rfl, _, rfl, by rw [eB]; exact lS BAD2 (by decide), j, _, n + 1, rfl, J1, by omega, by rw [eB, lenB]; decide, by rw [eB, lenB]; decide, fun si H2 h02 h12 J2 k2 => ?_⟩
    rw [eB, lenB] at h12
    obtain ⟨b, rfl⟩ := Int.eq_ofNat_of_zero_le h02
    have hb : b < BAD2.length := by show b < 28; omega
    have hc : BAD2[b] ∈ BAD2 := List.getElem_mem hb
    have hat : atI (S BAD2).cps.toList (b : Int) = some BAD2[b] := atI_nat (by show BAD2[b]? = _; exact List.getElem?_eq_getElem hb)
    generalize BAD2[b] = c at hc hat
    have hcn := bad_CH2 c hc
    refine ⟨_, _, c, rfl, rfl, by rw [eB]; exact lS BAD2 (by decide), by rw [eB]; exact hat, _, _, rfl, ?_⟩
    refine ⟨_, rfl, 59, rfl, _, rfl, lS l (by omega), ?_⟩
    rw [slice_to (by decide)]
    have e59 : (l.take (59 : Int).toNat).length ≤ 59 := by rw [List.length_take]; show min 59 _ ≤ _; omega
    generalize l.take (59 : Int).toNat = m59 at e59
    have k02 := k1.trans k2
    obtain ⟨ys2, hj2⟩ := J2.lst
    have nj : ∀ {a : Addr} {H' : Hp}, Ext H2 H' → H' a = none → a ≠ j ∧ H a = none := fun {a H'} k h => by
      have nH : H2 a = none := by
        cases e : H2 a with
        | none => rfl
        | some o => rw [k _ _ e] at h; cases h
      exact ⟨(by rintro rfl; rw [hj2] at nH; cases nH), kp_new J2 k02 nH⟩
    refine ⟨by show 0 ≤ sizeLine; decide, fun p1 hp1 => ⟨by show 0 ≤ sizeLine; decide, fun p2 hp2 => fun p3 hp3 => ⟨_, rfl, by show 1 ≤ sizeLine; decide, fun p4 hp4 => ⟨_, rfl, by show 1 ≤ sizeLine; decide, fun p5 hp5 => ?_⟩⟩⟩⟩
    obtain ⟨H3, z3⟩ : ∃ H', H' = upd H2 p1 (.lst []) := ⟨_, rfl⟩
    rw [← z3] at hp2 hp3 hp4 hp5 ⊢
    have x3 : Ext H2 H3 := by rw [z3]; exact Ext.refl.new hp1
    obtain ⟨H4, z4⟩ : ∃ H', H' = upd H3 p2 (.tup []) := ⟨_, rfl⟩
    rw [← z4] at hp3 hp4 hp5 ⊢
    have x4 : Ext H3 H4 := by rw [z4]; exact Ext.refl.new hp2
    obtain ⟨H5, z5⟩ : ∃ H', H' = upd H4 p3 (.dK []) := ⟨_, rfl⟩
    rw [← z5] at hp4 hp5 ⊢
    have x5 : Ext H4 H5 := by rw [z5]; exact Ext.refl.new hp3
    obtain ⟨H6, z6⟩ : ∃ H', H' = upd H5 p4 (.lst [.str (S l)]) := ⟨_, rfl⟩
    rw [← z6] at hp5 ⊢
    have x6 : Ext H5 H6 := by rw [z6]; exact Ext.refl.new hp4
    obtain ⟨H7, z7⟩ : ∃ H', H' = upd H6 p5 (.tup [.str (S l)]) := ⟨_, rfl⟩
    rw [← z7]
    have x7 : Ext H6 H7 := by rw [z7]; exact Ext.refl.new hp5
    have y3 := x3
    have y4 := y3.trans x4
    have y5 := y4.trans x5
    have y6 := y5.trans x6
    have y7 := y6.trans x7
    obtain ⟨n1, m1⟩ := nj .refl hp1
    obtain ⟨n2, m2⟩ := nj y3 hp2
    obtain ⟨n3, m3⟩ := nj y4 hp3
    obtain ⟨n4, m4⟩ := nj y5 hp4
    obtain ⟨n5, m5⟩ := nj y6 hp5
    obtain ⟨ma, ea, la⟩ := mul_one 98 (n := 61) (by decide) (by decide)
    have la' : ma.length = 61 := la
    refine ⟨_, rfl, _, _, rfl, rfl, mulOk_one (c := 98) (by decide) (by decide), ?_⟩
    rw [show Txt.mul ("b" : Str) 61 = S ma from ea]
    refine ⟨_, _, rfl, rfl, by rw [S_len, S_len, sizeLine_eq]; omega, ?_⟩
    rw [S_cat]
    refine ⟨61, rfl, _, rfl, lS _ (by rw [List.length_append]; omega), ?_⟩
    rw [slice_to (by decide)]
    have wa : ∀ H', Wr K H' (.str (S ((l ++ ma).take (61 : Int).toNat))) := fun H' => .str _ (by rw [List.length_take]; show min 61 _ ≤ _; omega) (goodB_long (by rw [List.length_take, List.length_append]; show 60 < min 61 _; omega))
    generalize (l ++ ma).take (61 : Int).toNat = m61 at wa
    refine ⟨_, _, rfl, rfl, mulOk_one (c := 98) (by decide) (by decide), ?_⟩
    rw [show Txt.mul ("b" : Str) 61 = S ma from ea]
    have wb : ∀ H', Wr K H' (.str (S ma)) := fun H' => .str _ (by omega) (goodB_long (by omega))
    have ec0 : (⟨#[c]⟩ : Str) = S [c] := rfl
    rw [ec0]
    have eab : ("ab" : Str) = S [97, 98] := by decide +kernel
    refine ⟨_, rfl, _, rfl, _, _, rfl, rfl, by rw [eab, S_len, S_len, sizeLine_eq]; show 2 + 1 ≤ _; omega, ?_⟩
    rw [eab, S_cat]
    have wc : ∀ H', Wr K H' (.str (S ([97, 98] ++ [c]))) := fun H' => .str _ (by show 3 ≤ 1000; decide) (goodB_bad (List.mem_append_right _ (List.mem_singleton.mpr rfl)) hcn)
    have wd : ∀ H', Wr K H' (.str (S [c])) := fun H' => .str [c] (by show 1 ≤ 1000; decide) (goodB_bad (List.mem_singleton.mpr rfl) hcn)
    refine ⟨by show 12 ≤ sizeLine; decide, fun p6 hp6 => ?_⟩
    obtain ⟨H8, z8⟩ : ∃ H', H' = upd H7 p6 (.lst [.non, .int 0, .bl true, .ref p1, .ref p2, .ref p3, .ref p4, .ref p5, .str (S m61), .str (S ma), .str (S [c]), .str (S ([97, 98] ++ [c]))]) := ⟨_, rfl⟩
    rw [← z8]
    have x8 : Ext H7 H8 := by rw [z8]; exact Ext.refl.new hp6
    have h8 : H8 p6 = some (.lst [.non, .int 0, .bl true, .ref p1, .ref p2, .ref p3, .ref p4, .ref p5, .str (S m61), .str (S ma), .str (S [c]), .str (S ([97, 98] ++ [c]))]) := by rw [z8, upd_same]
    obtain ⟨n6, m6⟩ := nj y7 hp6
    have y8 := y7.trans x8
    refine ⟨_, rfl, .inl ⟨rfl, _, SqL.of h8⟩, _, rfl, _, rfl, _, rfl, _, rfl, lS m59 (by omega), ?_⟩
    rw [slice_to h0]
    have e1 : (m59.take sp.toNat).length ≤ 59 := by rw [List.length_take]; omega
    have e2 : (m59.take sp.toNat).length + (m59.drop sp.toNat).length ≤ 59 := by rw [← List.length_append, List.take_append_drop]; exact e59
    refine ⟨_, rfl, _, _, rfl, rfl, by rw [S_len, S_len, sizeLine_eq]; show _ + 1 ≤ _; omega, ?_⟩
    rw [S_cat]
    refine ⟨_, rfl, _, rfl, _, rfl, _, rfl, lS m59 (by omega), ?_⟩
    rw [slice_from h0]
    refine ⟨_, _, rfl, rfl, by rw [S_len, S_len, sizeLine_eq, List.length_append]; simp only [List.length_cons, List.length_nil]; omega, ?_⟩
    rw [S_cat]
    have we : ∀ H', Wr K H' (.str (S (m59.take sp.toNat ++ [c] ++ m59.drop sp.toNat))) := fun H' => .str _ (by rw [List.length_append, List.length_append]; simp only [List.length_cons, List.length_nil]; omega) (goodB_bad (List.mem_append_left _ (List.mem_append_right _ (List.mem_singleton.mpr rfl))) hcn)
    generalize m59.take sp.toNat ++ [c] ++ m59.drop sp.toNat = m60 at we
    refine ⟨p6, _, _, rfl, rfl, h8, by show 12 + 1 ≤ sizeLine; decide, ?_⟩
    obtain ⟨H9, z9⟩ : ∃ H', H' = upd H8 p6 (.lst ([.non, .int 0, .bl true, .ref p1, .ref p2, .ref p3, .ref p4, .ref p5, .str (S m61), .str (S ma), .str (S [c]), .str (S ([97, 98] ++ [c]))] ++ [V.str (S m60)])) := ⟨_, rfl⟩
    have h9 : H9 p6 = some (.lst ([.non, .int 0, .bl true, .ref p1, .ref p2, .ref p3, .ref p4, .ref p5, .str (S m61), .str (S ma), .str (S [c]), .str (S ([97, 98] ++ [c]))] ++ [V.str (S m60)])) := by rw [z9, upd_same]
    have al : ∀ {a : Addr} {o : HO}, H7 a = some o → a ≠ p6 := fun h => ne_of_none h hp6
    have k9 : ∀ {a : Addr} {o : HO}, H7 a = some o → H9 a = some o := fun h => by rw [z9, upd_ne (al h)]; exact x8 _ _ h
    have j9 : JarAt H9 j (n + 2) := by
      rw [z9]
      exact (J2.ext y8).kpL (js := [p6]) (.upd (by simp)) (by simp; exact Ne.symm n6)
    have k29 : Kp j H2 H9 := fun a o na ea => k9 (y7 _ _ ea)
    show ∃ _, _
    rw [← z9]
    refine ⟨_, rfl, _, rfl, j, 13, n + 2, rfl, j9, by omega, by decide, by decide, fun ix HA h013 h113 JA kA => ?_⟩
    have hA := kA p6 _ n6 h9
    obtain ⟨x, hx, ex⟩ := atI_in (xs := [.non, .int 0, .bl true, .ref p1, .ref p2, .ref p3, .ref p4, .ref p5, .str (S m61), .str (S ma), .str (S [c]), .str (S ([97, 98] ++ [c]))] ++ [V.str (S m60)]) h013 (by simpa using h113)
    have kk : ∀ {a : Addr} {o : HO}, a ≠ j → H7 a = some o → HA a = some o := fun na h => kA _ _ na (k9 h)
    refine ⟨p6, _, ix, x, rfl, rfl, SqL.of hA, ex, q x HA ?_ ?_ (JA.le (by omega)) ((k02.trans k29).trans kA)⟩
    · simp only [List.cons_append, List.nil_append, List.mem_cons, List.not_mem_nil, or_false] at hx
      rcases hx with rfl | rfl | rfl | rfl | rfl | rfl | rfl | rfl | rfl | rfl | rfl | rfl | rfl
      · exact .non
      · exact .int _
      · exact .bl _
      · exact .lst (SqL.of (kk n1 (x7 _ _ (x6 _ _ (x5 _ _ (x4 _ _ (by rw [z3, upd_same])))))))
      · exact .tup (SqT.of (kk n2 (x7 _ _ (x6 _ _ (x5 _ _ (by rw [z4, upd_same]))))))
      · exact .dct (kk n3 (x7 _ _ (x6 _ _ (by rw [z5, upd_same]))))
      · exact .lst (SqL.of (kk n4 (x7 _ _ (by rw [z6, upd_same]))))
      · exact .tup (SqT.of (kk n5 (by rw [z7, upd_same])))
      · exact wa _
      · exact wb _
      · exact wd _
      · exact wc _
      · exact we _
    · intro a ea
      subst ea
      simp only [List.cons_append, List.nil_append, List.mem_cons, List.not_mem_nil, or_false] at hx
      rcases hx with h | h | h | h | h | h | h | h | h | h | h | h | h
      all_goals first | cases h | skip
      · exact m1
      · exact m2
      · exact m3
      · exact m4
      · exact m5
end
end Pd

set_option maxHeartbeats 4000000
namespace Pd
open PySem PySem.Spec PyProof.Rows L2 SX
/-! ### one pair: within a cell (Cj) and between cells (LJ) -/
structure Ar0 (H0 : Hp) (p0 : Pr) (w us : Addr) : Prop where
  w1 : w ∉ fp p0
  u1 : us ∉ fp p0
  wu : w ≠ us
  w0 : H0 w ≠ none
  u0 : H0 us ≠ none
structure Cj (K : PySem.W.Frag) (C CD CS : Addr) (H0 : Hp) (p0 : Pr) (w us : Addr) (b : Nat) (H : Hp) (p : Pr) (ts : List (List Nat)) (R N M m : Nat) : Prop where
  P : PrAt K C CD CS b H p
  s : p.s = p0.s
  st : p.st = p0.st
  B : Bd p R N M
  f : ∀ a ∈ fp p, a ∈ fp p0 ∨ H0 a = none
  wr_ : ∀ a ∈ wr p, a ∈ wr p0 ∨ H0 a = none
  J : JarAt H w m
  u : H us = some (.lst (txV ts))
  ug : ∀ t ∈ ts, Good t
  ul : ts.length ≤ 30
  k : KpL (w :: us :: wr p0) H0 H
/-- between cells: Hs is the heap in which the law began -/
structure LJ (K : PySem.W.Frag) (C CD CS : Addr) (Hs : Hp) (us : Addr) (b : Nat) (H : Hp) (p : Pr) (ts : List (List Nat)) (R N M : Nat) : Prop where
  P : PrAt K C CD CS b H p
  B : Bd p R N M
  u : H us = some (.lst (txV ts))
  ug : ∀ t ∈ ts, Good t
  ul : ts.length ≤ 30
  uo : us ∉ fp p
  un : Hs us = none
  n : ∀ a ∈ wr p, Hs a = none
  E : Ext Hs H
structure NoLJ (Hs : Hp) (us : Addr) (p : Pr) (a : Addr) : Prop where
  f : a ∉ fp p
  u : a ≠ us
  n : Hs a = none
section
variable {K : PySem.W.Frag} {C CD CS : Addr} {Hs H0 H H' : Hp} {p0 p : Pr} {w us : Addr} {b : Nat} {ts : List (List Nat)} {R N M m : Nat}
theorem Cj.out (A : Ar0 H0 p0 w us) (c : Cj K C CD CS H0 p0 w us b H p ts R N M m) : w ∉ fp p ∧ us ∉ fp p := by
  refine ⟨fun z => ?_, fun z => ?_⟩
  · rcases c.f _ z with h | h
    · exact A.w1 h
    · exact A.w0 h
  · rcases c.f _ z with h | h
    · exact A.u1 h
    · exact A.u0 h
theorem Cj.non0 (A : Ar0 H0 p0 w us) (c : Cj K C CD CS H0 p0 w us b H p ts R N M m) {a : Addr} (h : H a = none) : a ∈ wr p0 ∨ H0 a = none := by
  by_cases z : a ∈ wr p0
  · exact .inl z
  · refine .inr (c.k.ne h fun e => ?_)
    simp only [List.mem_cons] at e
    rcases e with rfl | rfl | e
    · obtain ⟨xs, e⟩ := c.J.lst
      rw [e] at h; cases h
    · rw [c.u] at h; cases h
    · exact z e
theorem Cj.mono {R' N' M' m' : Nat} (c : Cj K C CD CS H0 p0 w us b H p ts R N M m) (h1 : R ≤ R') (h2 : N ≤ N') (h3 : M ≤ M') (h4 : m ≤ m') : Cj K C CD CS H0 p0 w us b H p ts R' N' M' m' :=
  ⟨c.P, c.s, c.st, c.B.mono h1 h2 h3, c.f, c.wr_, c.J.le h4, c.u, c.ug, c.ul, c.k⟩
theorem Cj.up {b' : Nat} (c : Cj K C CD CS H0 p0 w us b H p ts R N M m) (h : b ≤ b') : Cj K C CD CS H0 p0 w us b' H p ts R N M m :=
  ⟨c.P.mono h, c.s, c.st, c.B, c.f, c.wr_, c.J, c.u, c.ug, c.ul, c.k⟩
theorem Cj.ext (c : Cj K C CD CS H0 p0 w us b H p ts R N M m) (k : Ext H H') : Cj K C CD CS H0 p0 w us b H' p ts R N M m :=
  ⟨c.P.ext k, c.s, c.st, c.B, c.f, c.wr_, c.J.ext k, k _ _ c.u, c.ug, c.ul, c.k.trans (.ext k)⟩
/-- the jar and the kept texts change -/
theorem Cj.draw (A : Ar0 H0 p0 w us) (c : Cj K C CD CS H0 p0 w us b H p ts R N M m) {ts' : List (List Nat)} {m' : Nat} (k : KpL [w, us] H H') (J : JarAt H' w m') (u : H' us = some (.lst (txV ts'))) (ug : ∀ t ∈ ts', Good t) (ul : ts'.length ≤ 30) :
    Cj K C CD CS H0 p0 w us b H' p ts' R N M m' := by
  obtain ⟨o1, o2⟩ := c.out A
  have ch : ChgM H [w, us] := fun a z => by
    simp only [List.mem_cons, List.mem_nil_iff, or_false] at z
    rcases z with rfl | rfl
    · exact c.J.chg _ (by simp)
    · exact ⟨_, c.u, .inl ⟨_, rfl⟩⟩
  have n2 : ∀ {a : Addr}, a ≠ w → a ≠ us → a ∉ [w, us] := fun h1 h2 => by simp [h1, h2]
  exact ⟨c.P.kpL k ch fun a z => n2 (by rintro rfl; exact o1 z) (by rintro rfl; exact o2 z), c.s, c.st, c.B, c.f, c.wr_, J, u, ug, ul, c.k.trans (k.mono fun a z => by simp at z; rcases z with z | z <;> simp [z])⟩
theorem Cj.jar (A : Ar0 H0 p0 w us) (c : Cj K C CD CS H0 p0 w us b H p ts R N M m) {m' : Nat} (J : JarAt H' w m') (k : Kp w H H') : Cj K C CD CS H0 p0 w us b H' p ts R N M m' :=
  c.draw A (.of (by simp) k) J (k _ _ (Ne.symm A.wu) c.u) c.ug c.ul
/-- a text is kept -/
theorem Cj.used (A : Ar0 H0 p0 w us) (c : Cj K C CD CS H0 p0 w us b H p ts R N M m) {ts' : List (List Nat)} (e : H' = upd H us (.lst (txV ts'))) (ug : ∀ t ∈ ts', Good t) (ul : ts'.length ≤ 30) : Cj K C CD CS H0 p0 w us b H' p ts' R N M m := by
  subst e
  exact c.draw A ((KpL.upd (js := [us]) (by simp)).mono fun a z => by simp at z; simp [z]) (c.J.kpL (js := [us]) (.upd (by simp)) (by simp; exact A.wu)) upd_same ug ul
/-- the pair goes on -/
theorem Cj.step (A : Ar0 H0 p0 w us) (c : Cj K C CD CS H0 p0 w us b H p ts R N M m) {b' : Nat} {p' : Pr} {R' N' M' m' : Nat} (lb : b ≤ b') (e1 : p'.s = p.s) (e2 : p'.st = p.st) (P' : PrAt K C CD CS b' H' p') (B' : Bd p' R' N' M')
    (f : ∀ a ∈ fp p', a ∈ fp p ∨ H a = none) (wr' : ∀ a ∈ wr p', a ∈ wr p ∨ H a = none) (J : JarAt H' w m') (k : KpL (w :: wr p) H H') :
    Cj K C CD CS H0 p0 w us b' H' p' ts R' N' M' m' := by
  obtain ⟨o1, o2⟩ := c.out A
  have h0 : ∀ {a}, H a = none → a ∈ wr p0 ∨ H0 a = none := fun z => c.non0 A z
  refine ⟨P', e1.trans c.s, e2.trans c.st, B', fun a z => ?_, fun a z => ?_, J, k _ _ (fun z => ?_) c.u, c.ug, c.ul, fun a o na ea => k a o (fun z => ?_) (c.k a o na ea)⟩
  · rcases f a z with h | h
    · exact c.f a h
    · exact (h0 h).elim (fun z => .inl (wr_fp z)) .inr
  · rcases wr' a z with h | h
    · exact c.wr_ a h
    · exact h0 h
  · simp only [List.mem_cons] at z
    rcases z with z | z
    · exact A.wu z.symm
    · exact o2 (wr_fp z)
  · simp only [List.mem_cons] at z
    rcases z with rfl | z
    · exact na (by simp)
    · rcases c.wr_ a z with h | h
      · exact na (by simp [h])
      · rw [h] at ea; cases ea
/-- the pair goes on without the jar -/
theorem Cj.step0 (A : Ar0 H0 p0 w us) (c : Cj K C CD CS H0 p0 w us b H p ts R N M m) {p' : Pr} {R' N' M' : Nat} (e1 : p'.s = p.s) (e2 : p'.st = p.st) (P' : PrAt K C CD CS b H' p') (B' : Bd p' R' N' M') (f : ∀ a ∈ fp p', a ∈ fp p ∨ H a = none) (wr' : ∀ a ∈ wr p', a ∈ wr p ∨ H a = none) (k : KpL (wr p) H H') :
    Cj K C CD CS H0 p0 w us b H' p' ts R' N' M' m := by
  obtain ⟨o1, o2⟩ := c.out A
  exact c.step A (Nat.le_refl _) e1 e2 P' B' f wr' (c.J.kpL k fun z => o1 (wr_fp z)) (k.mono fun a z => List.mem_cons_of_mem _ z)
theorem Cj.form (c : Cj K C CD CS H0 p0 w us b H p ts R N M m) : ∃ x y, p = ⟨p0.s, p0.st, x, y⟩ := by
  obtain ⟨s, st, x, y⟩ := p
  have e1 : s = p0.s := c.s
  have e2 : st = p0.st := c.st
  subst e1 e2
  exact ⟨x, y, rfl⟩
/-- what is not of the pair stays, between the start of the cell and now -/
theorem Cj.keep (c : Cj K C CD CS H0 p0 w us b H p ts R N M m) {a : Addr} {o : HO} (h1 : a ≠ w) (h2 : a ≠ us) (h3 : a ∉ wr p0) (h : H0 a = some o) : H a = some o := c.k a o (by simp [h1, h2, h3]) h
theorem LJ.fresh (c : LJ K C CD CS Hs us b H p ts R N M) {a : Addr} (h : H a = none) : NoLJ Hs us p a :=
  ⟨fun z => c.P.dom z h, (by rintro rfl; rw [c.u] at h; cases h), by
    cases e : Hs a with
    | none => rfl
    | some o => rw [c.E _ _ e] at h; cases h⟩
theorem LJ.kpL {js : List Addr} (c : LJ K C CD CS Hs us b H p ts R N M) (k : KpL js H H') (ch : ChgM H js) (n : ∀ a ∈ js, NoLJ Hs us p a) : LJ K C CD CS Hs us b H' p ts R N M :=
  ⟨c.P.kpL k ch fun a z e => (n a e).f z, c.B, k _ _ (fun z => (n _ z).u rfl) c.u, c.ug, c.ul, c.uo, c.un, c.n, fun a o e => k a o (fun z => by rw [(n a z).n] at e; cases e) (c.E a o e)⟩
theorem LJ.ext (c : LJ K C CD CS Hs us b H p ts R N M) (k : Ext H H') : LJ K C CD CS Hs us b H' p ts R N M := c.kpL (js := []) (.ext k) (fun _ z => nomatch z) fun _ z => nomatch z
theorem LJ.jar (c : LJ K C CD CS Hs us b H p ts R N M) {j : Addr} {n : Nat} (J : JarAt H j n) (o : NoLJ Hs us p j) (k : Kp j H H') : LJ K C CD CS Hs us b H' p ts R N M :=
  c.kpL (js := [j]) (.of (by simp) k) J.chg fun a z => by rw [List.mem_singleton.mp z]; exact o
theorem LJ.mono {R' N' M' : Nat} (c : LJ K C CD CS Hs us b H p ts R N M) (h1 : R ≤ R') (h2 : N ≤ N') (h3 : M ≤ M') : LJ K C CD CS Hs us b H p ts R' N' M' :=
  ⟨c.P, c.B.mono h1 h2 h3, c.u, c.ug, c.ul, c.uo, c.un, c.n, c.E⟩
theorem LJ.up {b' : Nat} (c : LJ K C CD CS Hs us b H p ts R N M) (h : b ≤ b') : LJ K C CD CS Hs us b' H p ts R N M :=
  ⟨c.P.mono h, c.B, c.u, c.ug, c.ul, c.uo, c.un, c.n, c.E⟩
theorem LJ.ci (c : LJ K C CD CS Hs us b H p ts R N M) (n : NoLJ Hs us p w) (J : JarAt H w m) : Cj K C CD CS H p w us b H p ts R N M m ∧ Ar0 H p w us :=
  ⟨⟨c.P, rfl, rfl, c.B, fun a z => .inl z, fun a z => .inl z, J, c.u, c.ug, c.ul, .ext .refl⟩, ⟨n.f, c.uo, n.u, (by
    obtain ⟨xs, e⟩ := J.lst
    rw [e]; simp), by rw [c.u]; simp⟩⟩
theorem LJ.back (c : LJ K C CD CS Hs us b H p ts R N M) (n : NoLJ Hs us p w) (J : JarAt H w m) {b' : Nat} {p' : Pr} {ts' : List (List Nat)} {R' N' M' m' : Nat} (d : Cj K C CD CS H p w us b' H' p' ts' R' N' M' m') :
    LJ K C CD CS Hs us b' H' p' ts' R' N' M' ∧ NoLJ Hs us p' w := by
  obtain ⟨_, A⟩ := c.ci n J
  obtain ⟨o1, o2⟩ := d.out A
  refine ⟨⟨d.P, d.B, d.u, d.ug, d.ul, o2, c.un, fun a z => ?_, fun a o e => d.k a o (fun z => ?_) (c.E a o e)⟩, ⟨o1, n.u, n.n⟩⟩
  · rcases d.wr_ a z with h | h
    · exact c.n a h
    · cases e : Hs a with
      | none => rfl
      | some o => rw [c.E _ _ e] at h; cases h
  · simp only [List.mem_cons] at z
    rcases z with rfl | rfl | z
    · rw [n.n] at e; cases e
    · rw [c.un] at e; cases e
    · rw [c.n a z] at e; cases e
end
theorem bd0 {s st d t p four rl pl : Addr} {g : Dg} {rs : List Addr} {rws : List (List Stp)} : Bd (pr0 s st d t p four rl pl g rs rws) 0 0 0 := ⟨Nat.le_refl _, (fun _ h => nomatch h), Nat.le_refl _, Nat.le_refl _, Nat.le_refl _⟩
theorem one_of {α : Type} {l : List α} (h : l.length = 1) : ∃ a, l = [a] := by
  match l, h with
  | [a], _ => exact ⟨a, rfl⟩
end Pd

set_option maxHeartbeats 2000000
namespace Pd
open PySem PySem.Spec PyProof.Rows L2
/-- a if c else b where n tokens are out -/
theorem pen_ifExp {X : Cx} {n : Nat} {c y z : Expr} {tA : TT} {ta tb : TE} {pos : Pos} (hc : PTn n X c tA) (ha : PEn n X y ta) (hb : PEn n X z tb) : PEn n X (.IfExp c y z pos) (tIf tA ta tb) := by
  constructor
  intro pins s σ H Q l I h
  refine wpAny_IfExp (thk l (hc.run pins s σ H _ l I h) ?_)
  rintro d s1 l1 ⟨H1, I1, q1⟩
  cases d with
  | true => exact ha.run pins s1 σ H1 Q l1 I1 q1
  | false => exact hb.run pins s1 σ H1 Q l1 I1 q1
end Pd

set_option maxHeartbeats 4000000
namespace Pd
open PySem PySem.Spec PyProof.Rows L2 SX
def spLaw (K : PySem.W.Frag) : Sp := fun vs H Q _ => ∃ (a : Addr) (ns : List Int), vs = [.ref a] ∧ SqL K H a (ns.map V.int) ∧ ns.length ≤ 63 ∧ ∀ H', Q (.bl true) H'
theorem Wr.kpL {K : PySem.W.Frag} {H H' : Hp} {js : List Addr} {x : V} (h : Wr K H x) (k : KpL js H H') (n : ∀ a, x = .ref a → a ∉ js) : Wr K H' x := by
  cases h with
  | non => exact .non
  | int i => exact .int i
  | bl b => exact .bl b
  | lst h => exact .lst (sqL_keep h fun o e => k _ o (n _ rfl) e)
  | tup h => exact .tup (sqT_keep h fun o e => k _ o (n _ rfl) e)
  | dct h => exact .dct (k _ _ (n _ rfl) h)
  | str l hl g => exact .str l hl g
theorem putR_len {f : List Nat → List Nat} {R : List Row3} {n : Nat} {l : List Nat} : (putR f R n l).length ≤ R.length + 1 := by
  unfold putR
  split
  · omega
  · rw [List.length_append]; exact Nat.le_refl _
section
variable {P : Program} {w : World} {K : PySem.W.Frag} {mg : Str → Option Value} {base : Heap}
theorem ok_law {f C CD CS : Addr} {fd : FuncData} (F : Fun K "law" "law" sLaw f fd) (T : Nms mg) (Z : Scl K mg CS) (G1 : Cl P w K mg base 1 "_law_well" (spJar K)) (D : Cl P w K mg base 1 "_law_draw" spDraw) (GS : ClB P w K mg base 7 "_law_start" (spStart K C CD CS)) (GN : Cl P w K mg base 2 "_law_nothing" (spLNothing CS))
    (GU : Cl P w K mg base 1 "_law_used" spLUsed) (GT : Cl P w K mg base 3 "_law_text" spTxt) (GB : Cl P w K mg base 2 "_law_bad_text" (spBad K)) (MP : Mt P w K mg base CS 6 "put" ["self", "text"] (spSPut K C CD CS)) (MS : Mt P w K mg base CS 4 "strike" ["self", "text"] (spSStrike K C CD CS))
    (GP : ClN P w K mg base 2 "_law_put" (spLPut K)) (GX : ClN P w K mg base 2 "_law_strike" (spLStrike K)) (GR : Cl P w K mg base 6 "_law_refused" (spLRefused K CS)) (GY : Cl P w K mg base 6 "_law_based" (spLBased K CS)) (MI : InM P w K mg base CS 4 "__contains__" ["self", "x"] (spSInX K CS))
    (GL : Cl P w K mg base 1 "_law_undo" (spLUndo K)) (MU : Mt P w K mg base CS 1 "undo" ["self"] (spSUndo K C CD CS)) (GA : Cl P w K mg base 4 "_law_forms_are" (spLForms K C CD CS)) (GF : ClN P w K mg base 6 "_law_found" (spLFound K C CD CS)) : FnOk P w K mg base CX0 8 f fd ["script"] (spLaw K) := by
  refine F.ok scLaw (fun vs H Q E h => ?_) (fun cdv A outer s H vs Q E hr h => ?_)
  · obtain ⟨a, ns, rfl, _⟩ := h
    rfl
  · obtain ⟨a, ns, rfl, hS, hlen, q⟩ := h
    have nd := scLaw.nd
    obtain ⟨gi, fdi, i1, i2, FI, bI⟩ := MI.ex
    refine ⟨_, pss_ofB (pssb_cons (psb_asg (peb_clB GS hr (by decide) rfl (pa_cons (pv 0) (pa_cons pe_int pa_nil))) (pg_tup (by rfl) (pgs_cons (pg_name (i := 1) nd rfl (Or.inl rfl)) (pgs_cons (pg_name (i := 2) nd rfl (Or.inl rfl)) (pgs_cons (pg_name (i := 3) nd rfl (Or.inl rfl)) (pgs_cons (pg_name (i := 4) nd rfl (Or.inl rfl)) pgs_nil))))))
      (pssb (fun n =>
      pssn_cons (psn (ps_par3 (i := 5) (j := 6) (l := 7) (by rfl) nd rfl rfl rfl (by decide) (by decide) (by decide) rfl rfl rfl (pa_cons (pe_ix ix_list (pv 3) pe_int (fun _ _ => rfl)) (pa_cons (pe_ix ix_list (pv 4) pe_int (fun _ _ => rfl)) (pa_cons (pe_lst pa_nil) pa_nil))) (by rfl)))
      (pssn_cut (psn (ps_if (pt_not (pt_val (pe_cl GN hr (by decide) rfl (pa_cons (pv 5) pa_nil)))) pss_never pss_nil))
      (pssn_cut (psn_for PassesOwn.never rfl (pi_range1 rfl T.range (pa_cons (pe_callB (call_max2 rfl) (by rfl) T.max (by decide +kernel) (pa_cons pe_int (pa_cons (pe_callB (call_min2 rfl) (by rfl) T.min (by decide +kernel) (pa_cons pe_int (pa_cons (pe_callB call_len_seq (by rfl) T.len PySem.boot_len (pa_cons (pv 0) pa_nil)) pa_nil))) pa_nil))) pa_nil)) (pg_name (i := 8) nd rfl (Or.inl rfl))
        (pssn_cons (psn (ps_set (i := 1) nd rfl (Or.inl rfl) (pe_cl G1 hr (by decide) rfl (pa_cons (pv 0) (pa_cons (pv 8) pa_nil)))))
        (pssn_cons (psn (ps_par3 (i := 9) (j := 10) (l := 11) (by rfl) nd rfl rfl rfl (by decide) (by decide) (by decide) rfl rfl rfl (pa_cons (pe_cl D hr (by decide) rfl (pa_cons (pv 1) (pa_cons pe_int pa_nil))) (pa_cons (pe_cl D hr (by decide) rfl (pa_cons (pv 1) (pa_cons pe_int pa_nil))) (pa_cons (pe_cl D hr (by decide) rfl (pa_cons (pv 1) (pa_cons pe_int pa_nil))) pa_nil))) (by rfl)))
        (pssn_cons (psn (ps_set (i := 12) nd rfl (Or.inl rfl) (pe_cl GU hr (by decide) rfl (pa_cons (pv 7) (pa_cons (pe_cl GT hr (by decide) rfl (pa_cons (pv 1) (pa_cons (pv 2) (pa_cons (pv 7) pa_nil)))) pa_nil)))))
        (pssn_cons (psn (ps_set (i := 13) nd rfl (Or.inl rfl) (pe_cl GB hr (by decide) rfl (pa_cons (pv 1) (pa_cons (pv 12) pa_nil)))))
        (pssn_cut (psn (ps_set (i := 14) nd rfl (Or.inl rfl) (pe_ifExp (pt_cmpR op_gt (pv 10) pe_int (nomark _)) (pe_mt MP hr (by decide) Z.cl (pv 5) (pa_cons (pv 12) pa_nil)) (pe_mt MS hr (by decide) Z.cl (pv 5) (pa_cons (pv 12) pa_nil)))))
        (pssn_cut (psn_if (ptn_cmpR op_ne (pen (pv 14)) (pen_ifExp (ptn (pt_cmpR op_gt (pv 10) pe_int (nomark _))) (pen_clN GP hr (by decide) rfl (pan (pa_cons (pv 6) (pa_cons (pv 12) pa_nil)))) (pen_clN GX hr (by decide) rfl (pan (pa_cons (pv 6) (pa_cons (pv 12) pa_nil))))) (nomark _)) (pssn pss_never) (pssn pss_nil))
        (pssn_cut (psn (ps_for PassesOwn.never rfl (pi_range1 rfl T.range (pa_cons pe_int pa_nil)) (pg_name (i := 15) nd rfl (Or.inl rfl))
          (pss_one (ps_if (pt_not (pt_val (pe_cl GR hr (by decide) rfl (pa_cons (pv 5) (pa_cons (pe_op op_mod (pe_callTy call_int1 (by rfl) T.int (by decide +kernel) (pa_cons (pe_op op_add (pv 9) (pv 15)) pa_nil)) pe_int) (pa_cons (pv 13) pa_nil)))))) pss_never pss_nil))))
        (pssn_cut (psn (ps_if (PW.pt (pw_or (pt_not (pt_val (pe_cl GY hr (by decide) rfl (pa_cons (pv 5) (pa_cons (pv 13) pa_nil))))) (pw_or1 (pt_cmpR op_notBl (pe_cmpR (op_inOwn i1 i2 (FnOk.raw FI bI .nil) (hr.mono (by decide)) pass0) (pv 13) (pv 5) (by rfl)) pe_bl (nomark _))))) pss_never pss_nil))
        (pssn_cut (psn (ps_if (pt_cmpR op_eq (pv 11) pe_int (nomark _)) (pss_cons (ps_expr (pe_cl GL hr (by decide) rfl (pa_cons (pv 6) pa_nil))) (pss_one (ps_if (pt_cmp (pc_notN (pe_mt0 MU hr (by decide) Z.cl (pv 5)))) pss_never pss_nil))) pss_nil))
        (pssn_one (psn_if (PWn.ptn (pwn_or (ptn (pt_not (pt_val (pe_cl GA hr (by decide) rfl (pa_cons (pv 5) (pa_cons (pv 6) (pa_cons (pv 9) pa_nil))))))) (pwn_or1 (ptn_not (ptn_val (pen_clN GF hr (by decide) rfl (pan (pa_cons (pv 5) (pa_cons (pv 6) (pa_cons (pe_lst (pa_cons (pv 12) pa_nil)) pa_nil)))))))))) (pssn pss_never) (pssn pss_nil)))))))))))))
      (pssn_one (psn (ps_ret pe_bl)))))))), ?_⟩
    refine ⟨_, rfl, a, ns, 1, rfl, hS, hlen, by decide, by decide, fun b j l hs ss t ps H1 ht hP J1 P1 hL hnew k1 njh njs nj nhs nss => ⟨t, _, rfl, SqT.of ht, rfl, _, _, rfl, _, _, rfl, _, _, rfl, _, _, rfl, rfl, ?_⟩⟩
    obtain ⟨nb, enb⟩ : ∃ nb, nb = max 0 b := ⟨_, rfl⟩
    rw [← enb]
    obtain ⟨p0, rfl⟩ := one_of hL
    obtain ⟨⟨s, st, d, t0, q0, four, rl, pl, g, rs, rws, ep⟩, hn⟩ := hnew p0 (List.mem_singleton.mpr rfl)
    have PP : PrAt K C CD CS nb H1 p0 := (P1.at_ p0 (List.mem_singleton.mpr rfl)).mono (by rw [enb]; exact Nat.le_max_right _ _)
    have es : p0.s = s := by rw [ep]; rfl
    have est : p0.st = st := by rw [ep]; rfl
    have e1 : H1 hs = some (.lst [.ref s]) := by
      have z := P1.e1
      rw [List.map_cons, es] at z
      exact z
    have e2 : H1 ss = some (.lst [.ref st]) := by
      have z := P1.e2
      rw [List.map_cons, est] at z
      exact z
    have ep' : p0 = ⟨s, st, ⟨d, g, t0, 0, q0, [], []⟩, ⟨four, rs, rws, rl, [], pl, []⟩⟩ := ep
    refine ⟨_, rfl, hs, _, 0, _, rfl, rfl, SqL.of e1, rfl, _, rfl, ss, _, 0, _, rfl, rfl, SqL.of e2, rfl, by show 0 ≤ sizeLine; decide, fun us hus => ⟨_, _, _, rfl, ?_⟩⟩
    obtain ⟨H2, z2⟩ : ∃ H', H' = upd H1 us (.lst []) := ⟨_, rfl⟩
    rw [← z2]
    have k2 : Ext H1 H2 := by rw [z2]; exact Ext.refl.new hus
    have L0 : LJ K C CD CS H us nb H2 ⟨s, st, ⟨d, g, t0, 0, q0, [], []⟩, ⟨four, rs, rws, rl, [], pl, []⟩⟩ [] 0 0 0 := by
      rw [← ep']
      refine ⟨PP.ext k2, by rw [ep]; exact bd0, by rw [z2, upd_same]; rfl, (fun _ h => nomatch h), by decide, fun z => PP.dom z hus, ?_, fun a z => (hn a (wr_fp z)).1, k1.trans k2⟩
      cases e : H us with
      | none => rfl
      | some o => rw [k1 _ _ e] at hus; cases hus
    have hSx : ∀ {H'}, Ext H H' → SqL K H' a (ns.map V.int) := fun k => sqL_keep hS fun o e => k _ _ e
    refine ⟨fun σ' H' => σ' = [some (.ref a), some (.ref j), some (.str (S l)), some (.ref hs), some (.ref ss), some (.ref s), some (.ref st), some (.ref us), none, none, none, none, none, none, none, none] ∧ LJ K C CD CS H us nb H' ⟨s, st, ⟨d, g, t0, 0, q0, [], []⟩, ⟨four, rs, rws, rl, [], pl, []⟩⟩ [] 0 0 0, ?_, ?_⟩
    · exact ⟨_, rfl, s, _, _, _, _, rfl, L0.P.S.ins, L0.P.S.past, fun H3 k3 => ⟨_, rfl, iteF ⟨rfl, L0.ext k3⟩⟩⟩
    rintro σ3 H3 ⟨rfl, L3⟩
    refine ⟨fun σ' H' => ∃ v1 v8 v9 v10 v11 v12 v13 v14 v15, σ' = [some (.ref a), v1, some (.str (S l)), some (.ref hs), some (.ref ss), some (.ref s), some (.ref st), some (.ref us), v8, v9, v10, v11, v12, v13, v14, v15], ?_, ?_⟩
    · refine ⟨_, rfl, a, _, rfl, .inl (hSx L3.E), _, _, rfl, _, _, rfl, ?_⟩
      rw [List.length_map]
      obtain ⟨kk, ekk⟩ : ∃ kk : Int, kk = (if (if ((ns.length : Nat) : Int) < 63 then ((ns.length : Nat) : Int) else 63) > 1 then (if ((ns.length : Nat) : Int) < 63 then ((ns.length : Nat) : Int) else 63) else 1) := ⟨_, rfl⟩
      have hk1 : 0 ≤ kk := by rw [ekk]; split <;> split <;> omega
      have hk2 : kk ≤ 63 := by rw [ekk]; split <;> split <;> omega
      rw [← ekk]
      refine ⟨kk, rfl, by omega, by omega, for_range (lo := 0) (n := kk.toNat) (fun i σ H' => ∃ v1 v8 v9 v10 v11 v12 v13 v14 v15 x y ts, σ = [some (.ref a), v1, some (.str (S l)), some (.ref hs), some (.ref ss), some (.ref s), some (.ref st), some (.ref us), v8, v9, v10, v11, v12, v13, v14, v15] ∧ LJ K C CD CS H us nb H' ⟨s, st, x, y⟩ ts i i i) ⟨_, _, _, _, _, _, _, _, _, _, _, _, rfl, L3⟩ ?_ ?_⟩
      · rintro i σ H5 hi ⟨v1, v8, v9, v10, v11, v12, v13, v14, v15, x, y, ts, rfl, L5⟩
        have hi63 : i < 63 := by omega
        refine ⟨_, rfl, _, rfl, a, ns, 0 + (i : Int), rfl, hSx L5.E, hlen, by omega, by omega, fun w H6 nw J6 k6 => ?_⟩
        replace k6 : Ext H5 H6 := k6
        have L6 := L5.ext k6
        have nW : NoLJ H us ⟨s, st, x, y⟩ w := L5.fresh nw
        refine ⟨_, rfl, w, 6, 0, rfl, J6, by omega, by decide, by decide, fun tn H7 t0' t1' J7 k7 => ⟨_, rfl, w, 3, _, rfl, J7, by omega, by decide, by decide, fun wy H8 w0 w1 J8 k8 => ⟨_, rfl, w, 3, _, rfl, J8, by omega, by decide, by decide, fun bk H9 b0 b1 J9 k9 => ⟨_, _, _, rfl, ?_⟩⟩⟩⟩
        have L9 := ((L6.jar J6 nW k7).jar J7 nW k8).jar J8 nW k9
        refine ⟨_, rfl, _, rfl, _, rfl, _, rfl, w, us, _, l, ts, rfl, J9, hP, L9.u, L9.ug, by have := L9.ul; omega, Ne.symm nW.u, by omega, fun tx H10 gtx J10 k10 => ?_⟩
        have L10 := L9.jar J9 nW k10
        refine ⟨us, tx, ts, rfl, L10.u, fun ts' H11 hts e11 => ?_⟩
        obtain ⟨C10, A10⟩ := L10.ci nW J10
        have C11 : Cj K C CD CS H10 ⟨s, st, x, y⟩ w us nb H11 ⟨s, st, x, y⟩ ts' i i i _ := C10.used A10 e11 (fun t ht => by
            rcases hts with rfl | ⟨_, rfl⟩
            · exact L10.ug t ht
            · rcases List.mem_append.mp ht with h | h
              · exact L10.ug t h
              · rw [List.mem_singleton.mp h]; exact gtx) (by
            rcases hts with rfl | ⟨h, rfl⟩
            · exact L10.ul
            · rw [List.length_append]; show _ + 1 ≤ 30; omega)
        refine ⟨_, rfl, _, rfl, w, _, tx, rfl, C11.J, gtx, by omega, fun th H12 wth nth J12 k12 => ?_⟩
        have C12 := C11.jar A10 J12 k12
        have P12 := C12.P
        obtain ⟨b1', b2', b3', b4', b5'⟩ := id C12.B
        have b1' : x.R.length ≤ i := b1'
        have b3' : x.n ≤ i := b3'
        have b4' : x.st.length ≤ i := b4'
        have b5' : y.ps.length ≤ i := b5'
        have yR : y.R.length = x.R.length := P12.ag.len
        obtain ⟨s0, s1, s2⟩ := P12.ag.st
        obtain ⟨dx, e12⟩ := P12.S.ins
        have nthw : ∀ c, th = .ref c → c ∉ wr ⟨s, st, x, y⟩ := fun c e z => C11.P.dom (wr_fp z) (nth c e)
        -- the shelf's call
        refine ⟨fun σ' H' => ∃ c q' R' n', σ' = [some (.ref a), some (.ref w), some (.str (S l)), some (.ref hs), some (.ref ss), some (.ref s), some (.ref st), some (.ref us), some (.int (0 + (i : Int))), some (.int tn), some (.int wy), some (.int bk), some (.str (S tx)), some th, some (.bl c), v15] ∧ PastOf H12 x q' ∧ ShAt K C CD CS H' s (x.next q' R' n') ∧ KpL (own s x) H12 H' ∧
          ((wy > 0 ∧ R' = putR (mks x.g.s1) x.R x.n tx ∧ n' = putN (mks x.g.s1) x.R x.n tx ∧ c = decide (mks x.g.s1 tx ∉ forms x.R)) ∨ (¬ wy > 0 ∧ R' = strR (mks x.g.s3) x.R tx ∧ n' = x.n ∧ c = decide (mks x.g.s3 tx ∈ forms x.R))), ?_, ?_⟩
        · refine ⟨_, rfl, _, _, rfl, rfl, _, rfl, ite2 (fun h => ?_) (fun h => ?_)⟩
          · exact ⟨_, rfl, s, dx, _, rfl, e12, rfl, _, rfl, s, x, tx, rfl, P12.S, gtx, by omega, by omega, fun q' H13 pq S13 k13 => ⟨_, q', _, _, rfl, pq, S13, k13, .inl ⟨of_decide_eq_true h, rfl, rfl, rfl⟩⟩⟩
          · exact ⟨_, rfl, s, dx, _, rfl, e12, rfl, _, rfl, s, x, tx, rfl, P12.S, gtx, by omega, by omega, fun q' H13 pq S13 k13 => ⟨_, q', _, _, rfl, pq, S13, k13, .inr ⟨of_decide_eq_false (by simpa using h), rfl, rfl, rfl⟩⟩⟩
        rintro σ13 H13 ⟨c, q', R', n', rfl, pq, S13, k13, hc⟩
        have L13 := P12.L.kpL k13 P12.S.chg fun a z e => P12.dj a e z
        have lR' : R'.length ≤ i + 1 := by
          rcases hc with ⟨_, e, _⟩ | ⟨_, e, _⟩
          · rw [e]; exact Nat.le_trans putR_len (by omega)
          · rw [e]; exact Nat.le_trans (List.length_filter_le _ _) (by omega)
        have ln' : n' ≤ i + 1 := by
          rcases hc with ⟨_, _, e, _⟩ | ⟨_, _, e, _⟩
          · rw [e]; exact Nat.le_trans putN_le.2 (by omega)
          · rw [e]; omega
        -- the law's own
        refine ⟨fun σ' H' => ∃ x' y', σ' = [some (.ref a), some (.ref w), some (.str (S l)), some (.ref hs), some (.ref ss), some (.ref s), some (.ref st), some (.ref us), some (.int (0 + (i : Int))), some (.int tn), some (.int wy), some (.int bk), some (.str (S tx)), some th, some (.bl c), v15] ∧ Cj K C CD CS H10 ⟨s, st, x, y⟩ w us nb H' ⟨s, st, x', y'⟩ ts' (i + 1) (i + 1) (i + 1) 1000 ∧ y'.ps ≠ [] ∧ Wr K H' th, ?_, ?_⟩
        · have fin : ∀ {H14 : Hp} {lp : Lp} {rl' : Addr}, LPast H13 y lp rl' → LsAt K nb H14 st { y with R := prs R', rl := rl', ps := lp :: y.ps } → KpL [st, y.pl] H13 H14 → ∃ x' y', ([some (.ref a), some (.ref w), some (.str (S l)), some (.ref hs), some (.ref ss), some (.ref s), some (.ref st), some (.ref us), some (.int (0 + (i : Int))), some (.int tn), some (.int wy), some (.int bk), some (.str (S tx)), some th, some (.bl c), v15] : L2.St) = [some (.ref a), some (.ref w), some (.str (S l)), some (.ref hs), some (.ref ss), some (.ref s), some (.ref st), some (.ref us), some (.int (0 + (i : Int))), some (.int tn), some (.int wy), some (.int bk), some (.str (S tx)), some th, some (.bl c), v15] ∧ Cj K C CD CS H10 ⟨s, st, x, y⟩ w us nb H14 ⟨s, st, x', y'⟩ ts' (i + 1) (i + 1) (i + 1) 1000 ∧ y'.ps ≠ [] ∧ Wr K H14 th := fun {H14 lp rl'} lq L14 k14 => by
            obtain ⟨P14, f14, w14, k1214⟩ := P12.step' k13 S13 pq k14 L14 lq rfl
            have C14 := C12.step0 A10 (p' := (⟨s, st, x, y⟩ : Pr).next q' R' n' rl' lp (prs R')) rfl rfl P14 (C12.B.next pq.R lR' (by omega) ln') f14 w14 k1214
            exact ⟨_, _, rfl, C14.mono (Nat.le_refl _) (Nat.le_refl _) (Nat.le_refl _) (by omega), (fun z => nomatch z), wth.kpL k1214 nthw⟩
          rcases hc with ⟨hw, eR, eN, ec⟩ | ⟨hw, eR, eN, ec⟩
          · refine ⟨_, rfl, _, rfl, _, _, rfl, rfl, _, rfl, ite2 (fun _ => ?_) (fun h => absurd hw (of_decide_eq_false (by simpa using h)))⟩
            refine ⟨_, rfl, _, rfl, st, y, tx, rfl, L13, gtx, by omega, by omega, fun lp rl' H14 lq L14 k14 => ⟨rfl, _, rfl, ?_⟩⟩
            rw [s0, P12.ag.R, prs_put (n := x.n), ← eR] at L14
            rw [s0, P12.ag.forms, ← ec]
            have en : (!decide (V.bl c = V.bl c)) = false := by rw [decide_eq_true rfl]; rfl
            show if (!decide (V.bl c = V.bl c)) = true then _ else _
            rw [en]
            exact iteF (fin lq L14 k14)
          · refine ⟨_, rfl, _, rfl, _, _, rfl, rfl, _, rfl, ite2 (fun h => absurd (of_decide_eq_true h) hw) (fun _ => ?_)⟩
            refine ⟨_, rfl, _, rfl, st, y, tx, rfl, L13, gtx, by omega, by omega, fun lp rl' H14 lq L14 k14 => ⟨rfl, _, rfl, ?_⟩⟩
            rw [s2, P12.ag.R, prs_str, ← eR] at L14
            rw [s2, P12.ag.forms, ← ec]
            have en : (!decide (V.bl c = V.bl c)) = false := by rw [decide_eq_true rfl]; rfl
            show if (!decide (V.bl c = V.bl c)) = true then _ else _
            rw [en]
            exact iteF (fin lq L14 k14)
        rintro σ14 H14 ⟨x', y', rfl, C14, np, wth14⟩
        have P14 := C14.P
        -- three tries
        refine ⟨fun σ' H' => ∃ v15, σ' = [some (.ref a), some (.ref w), some (.str (S l)), some (.ref hs), some (.ref ss), some (.ref s), some (.ref st), some (.ref us), some (.int (0 + (i : Int))), some (.int tn), some (.int wy), some (.int bk), some (.str (S tx)), some th, some (.bl c), v15] ∧ Ext H14 H', ?_, ?_⟩
        · refine ⟨3, rfl, by decide, by decide, for_range (lo := 0) (n := 3) (fun i' σ H' => ∃ v15, σ = [some (.ref a), some (.ref w), some (.str (S l)), some (.ref hs), some (.ref ss), some (.ref s), some (.ref st), some (.ref us), some (.int (0 + (i : Int))), some (.int tn), some (.int wy), some (.int bk), some (.str (S tx)), some th, some (.bl c), v15] ∧ Ext H14 H') ⟨_, rfl, .refl⟩ ?_ ?_⟩
          · rintro i' σ H15 hi' ⟨v15', rfl, k15⟩
            exact ⟨_, rfl, _, rfl, _, rfl, _, _, rfl, rfl, .inl ⟨_, rfl, _, _, rfl, rfl, (show (0:Int) < 3 by decide), _, rfl, s, _, th, _, _, _, _, rfl, (P14.S.ext k15).ins, wth14.ext k15, fun H16 k16 => ⟨_, rfl, iteF ⟨_, rfl, k15.trans k16⟩⟩⟩⟩
          · rintro σ H15 ⟨v15', rfl, k15⟩
            exact ⟨_, rfl, k15⟩
        rintro σ15 H15 ⟨v15', rfl, k15⟩
        -- its classes, in
        refine ⟨fun σ' H' => σ' = [some (.ref a), some (.ref w), some (.str (S l)), some (.ref hs), some (.ref ss), some (.ref s), some (.ref st), some (.ref us), some (.int (0 + (i : Int))), some (.int tn), some (.int wy), some (.int bk), some (.str (S tx)), some th, some (.bl c), v15'] ∧ Ext H14 H', ?_, ?_⟩
        · have S15 := P14.S.ext k15
          refine ⟨_, rfl, _, rfl, s, th, _, _, _, _, rfl, S15.ins, wth14.ext k15, fun H16 k16 => ⟨_, rfl, iteF ?_⟩⟩
          obtain ⟨dx', e16⟩ := (S15.ext k16).ins
          refine ⟨_, rfl, _, rfl, s, dx', _, rfl, e16, s, th, rfl, (wth14.ext k15).ext k16, fun H17 k17 => ⟨_, rfl, _, _, rfl, rfl, _, rfl, ?_⟩⟩
          exact iteF ⟨rfl, (k15.trans k16).trans k17⟩
        rintro σ16 H16 ⟨rfl, k16⟩
        have C16 := C14.ext k16
        -- undo
        refine ⟨fun σ' H' => ∃ x2 y2, σ' = [some (.ref a), some (.ref w), some (.str (S l)), some (.ref hs), some (.ref ss), some (.ref s), some (.ref st), some (.ref us), some (.int (0 + (i : Int))), some (.int tn), some (.int wy), some (.int bk), some (.str (S tx)), some th, some (.bl c), v15'] ∧ Cj K C CD CS H10 ⟨s, st, x, y⟩ w us nb H' ⟨s, st, x2, y2⟩ ts' (i + 1) (i + 1) (i + 1) 1000, ?_, ?_⟩
        · refine ⟨_, rfl, rfl, _, rfl, ite2 (fun _ => ?_) (fun _ => ⟨_, _, rfl, C16⟩)⟩
          have P16 := C16.P
          refine ⟨_, rfl, nb, st, y', rfl, P16.L, Ag.good P16, fun z => absurd z np, fun lp lrest H17 ep L17 k17 => ?_⟩
          have c16 : ChgM H16 [st, y'.pl] := fun a z => P16.L.chg a (two_lown z)
          have S17 : ShAt K C CD CS H17 s x' := P16.S.kpL k17 c16 fun a z e => P16.dj a z (two_lown e)
          cases est' : x'.st with
          | nil => exact absurd ((Ag.nil (p := ⟨s, st, x', y'⟩) P16.ag).mp est') np
          | cons q2 rest =>
            obtain ⟨dx', e17⟩ := S17.ins
            have xn : x'.n ≤ i + 1 := C16.B.n
            refine ⟨_, rfl, s, dx', _, rfl, e17, rfl, s, x', q2, rest, rfl, S17, est', by omega, fun H18 S18 k18 => ?_⟩
            obtain ⟨P18, f18, w18, k168⟩ := PrAt.undoneLS P16 est' ep k17 L17 k18 S18
            have C18 := C16.step0 A10 (p' := (⟨s, st, x', y'⟩ : Pr).undone q2 rest lp lrest) rfl rfl P18 (C16.B.undone est' ep) (fun a z => .inl (f18 a z)) (fun a z => .inl (w18 a z)) k168
            have ff : (!decide (V.non = V.non)) = false := by rw [decide_eq_true rfl]; rfl
            refine ⟨_, rfl, ?_⟩
            show if (!decide (V.non = V.non)) = true then _ else _
            rw [ff]
            exact iteF ⟨_, _, rfl, C18⟩
        rintro σ18 H18 ⟨x2, y2, rfl, C18⟩
        have P18 := C18.P
        have xR : x2.R.length ≤ i + 1 := C18.B.R
        have xn : x2.n ≤ i + 1 := C18.B.n
        refine ⟨_, rfl, _, rfl, _, rfl, s, st, x2, y2, nb, tn, rfl, P18.S, P18.L, P18.ag, by omega, fun H19 k19 => ⟨_, rfl, iteF ?_⟩⟩
        have P19 := P18.ext k19
        refine ⟨_, rfl, _, rfl, _, rfl, by show 1 ≤ sizeLine; decide, fun q1 hq1 => ?_⟩
        have k20 : Ext H19 (upd H19 q1 (.lst [.str (S tx)])) := Ext.refl.new hq1
        have P20 := P19.ext k20
        refine ⟨s, st, q1, x2, y2, [tx], rfl, P20.S, P20.L, P20.ag, upd_same, (fun t h => by rw [List.mem_singleton.mp h]; exact gtx), by omega, fun H21 k21 => ⟨_, rfl, iteF ?_⟩⟩
        obtain ⟨L21, _⟩ := L10.back nW J10 (C18.ext ((k19.trans k20).trans k21))
        exact ⟨_, _, _, _, _, _, _, _, _, _, _, _, rfl, L21⟩
      · rintro σ H5 ⟨v1, v8, v9, v10, v11, v12, v13, v14, v15, x, y, ts, rfl, L5⟩
        exact ⟨_, _, _, _, _, _, _, _, _, rfl⟩
    rintro σ5 H5 ⟨v1, v8, v9, v10, v11, v12, v13, v14, v15, rfl⟩
    exact q H5
end
end Pd

set_option maxHeartbeats 4000000
namespace Pd
open PySem PySem.Spec PyProof.Rows L2 SX
/-! ### facts of classes -/
theorem kit_ty_ref {K : PySem.W.Frag} {C : Addr} {b : Bool} (s : PySem.W.subIn K (.ref C) (.type "ValueError") = some b) : PySem.W.kitOne K (.ref C) (.type "ValueError") = some b := by
  have e : PySem.W.kitMeta "ValueError" = true := by decide +kernel
  unfold PySem.W.kitOne
  rw [if_neg (by intro h; exact absurd (beq_iff_eq.mp h) (by intro h; cases h))]
  show (if PySem.W.kitMeta "ValueError" = true then PySem.W.subIn K (.ref C) (.type "ValueError") else none) = some b
  rw [if_pos e]
  exact s
theorem kit_ref_no {K : PySem.W.Frag} {C D : Addr} (i : PySem.W.isClsIn K D = true) (t : PySem.W.typeIn K (.ref D) = some (.type "type")) (s : PySem.W.subIn K (.ref C) (.ref D) = some false) (s' : PySem.W.subIn K (.ref C) (.ref C) = some true) : PySem.W.kitOne K (.ref C) (.ref D) = some false := by
  have e : (PySem.W.clsIn K D).isSome = true := i
  have n : ¬ ((Value.ref C == Value.ref D) = true) := by
    intro h
    have h := beq_iff_eq.mp h
    rw [← h, s'] at s
    cases s
  unfold PySem.W.kitOne
  rw [if_neg n]
  simp [PySem.W.kitCls, t, e, s]
end Pd

set_option maxHeartbeats 4000000
namespace Pd
open PySem PySem.Spec PyProof.Rows L2 SX
theorem all_mk {l : PySem.W.OpenLaw} {w : World} {K : PySem.W.Frag} {h : Heap} {mg : Str → Option Value} {fa C CN CU CP CF f0 f1 f2 f3 f4 f5 f6 f7 f8 f9 f10 f11 f12 f13 f14 f15 f16 f17 f18 f19 f20 f21 f22 f23 f24 f25 f26 f27 f28 f29 f30 f31 f32 f33 f34 D CS g0 Td Ed g1 g2 g3 g4 g5 g6 g7 g8 g9 g10 g11 g12 g13 g14 g15 g16 g17 g18 g19 g20 g21 : Addr} (X : K.In h) (G : h.Ns mainGlobals mg) (hfa : mg "law" = some (.ref fa))
    {od0 an0 od1 an1 od2 an2 od3 an3 od4 an4 od5 an5 od6 an6 od7 an7 od8 an8 od9 an9 od10 an10 od11 an11 od12 an12 od13 an13 od14 an14 od15 an15 od16 an16 od17 an17 od18 an18 od19 an19 od20 an20 od21 an21 od22 an22 od23 an23 od24 an24 od25 an25 od26 an26 od27 an27 od28 an28 od29 an29 od30 an30 od31 an31 od32 an32 od33 an33 od34 an34 od_0 an_0 odT od_1 an_1 od_2 an_2 od_3 an_3 od_4 an_4 od_5 an_5 od_6 an_6 od_7 an_7 od_8 an_8 od_9 an_9 od_10 an_10 od_11 an_11 od_12 an_12 od_13 an_13 od_14 an_14 od_15 an_15 od_16 an_16 od_17 an_17 od_18 an_18 od_19 an_19 od_20 an_20 od_21 an_21 : Option Addr} {sl0 sl1 sl2 sl3 sl4 sl5 sl6 sl7 sl8 sl9 sl10 sl11 sl12 sl13 sl14 sl15 sl16 sl17 sl18 sl19 sl20 sl21 sl22 sl23 sl24 sl25 sl26 sl27 sl28 sl29 sl30 sl31 sl32 sl33 sl34 sl_0 slT sl_1 sl_2 sl_3 sl_4 sl_5 sl_6 sl_7 sl_8 sl_9 sl_10 sl_11 sl_12 sl_13 sl_14 sl_15 sl_16 sl_17 sl_18 sl_19 sl_20 sl_21 : Array (Option Value)} {oc0 kV0 dc0 pm0 cd0 ct0 oc1 kV1 dc1 pm1 cd1 ct1 oc2 kV2 dc2 pm2 cd2 ct2 oc3 kV3 dc3 pm3 cd3 ct3 oc4 kV4 dc4 pm4 cd4 ct4 oc5 kV5 dc5 pm5 cd5 ct5 oc6 kV6 dc6 pm6 cd6 ct6 oc7 kV7 dc7 pm7 cd7 ct7 oc8 kV8 dc8 pm8 cd8 ct8 oc9 kV9 dc9 pm9 cd9 ct9 oc10 kV10 dc10 pm10 cd10 ct10 oc11 kV11 dc11 pm11 cd11 ct11 oc12 kV12 dc12 pm12 cd12 ct12 oc13 kV13 dc13 pm13 cd13 ct13 oc14 kV14 dc14 pm14 cd14 ct14 oc15 kV15 dc15 pm15 cd15 ct15 oc16 kV16 dc16 pm16 cd16 ct16 oc17 kV17 dc17 pm17 cd17 ct17 oc18 kV18 dc18 pm18 cd18 ct18 oc19 kV19 dc19 pm19 cd19 ct19 oc20 kV20 dc20 pm20 cd20 ct20 oc21 kV21 dc21 pm21 cd21 ct21 oc22 kV22 dc22 pm22 cd22 ct22 oc23 kV23 dc23 pm23 cd23 ct23 oc24 kV24 dc24 pm24 cd24 ct24 oc25 kV25 dc25 pm25 cd25 ct25 oc26 kV26 dc26 pm26 cd26 ct26 oc27 kV27 dc27 pm27 cd27 ct27 oc28 kV28 dc28 pm28 cd28 ct28 oc29 kV29 dc29 pm29 cd29 ct29 oc30 kV30 dc30 pm30 cd30 ct30 oc31 kV31 dc31 pm31 cd31 ct31 oc32 kV32 dc32 pm32 cd32 ct32 oc33 kV33 dc33 pm33 cd33 ct33 oc34 kV34 dc34 pm34 cd34 ct34 oc_0 kV_0 dc_0 pm_0 cd_0 ct_0 ocT oc_1 kV_1 dc_1 pm_1 cd_1 ct_1 oc_2 kV_2 dc_2 pm_2 cd_2 ct_2 oc_3 kV_3 dc_3 pm_3 cd_3 ct_3 oc_4 kV_4 dc_4 pm_4 cd_4 ct_4 oc_5 kV_5 dc_5 pm_5 cd_5 ct_5 oc_6 kV_6 dc_6 pm_6 cd_6 ct_6 oc_7 kV_7 dc_7 pm_7 cd_7 ct_7 oc_8 kV_8 dc_8 pm_8 cd_8 ct_8 oc_9 kV_9 dc_9 pm_9 cd_9 ct_9 oc_10 kV_10 dc_10 pm_10 cd_10 ct_10 oc_11 kV_11 dc_11 pm_11 cd_11 ct_11 oc_12 kV_12 dc_12 pm_12 cd_12 ct_12 oc_13 kV_13 dc_13 pm_13 cd_13 ct_13 oc_14 kV_14 dc_14 pm_14 cd_14 ct_14 oc_15 kV_15 dc_15 pm_15 cd_15 ct_15 oc_16 kV_16 dc_16 pm_16 cd_16 ct_16 oc_17 kV_17 dc_17 pm_17 cd_17 ct_17 oc_18 kV_18 dc_18 pm_18 cd_18 ct_18 oc_19 kV_19 dc_19 pm_19 cd_19 ct_19 oc_20 kV_20 dc_20 pm_20 cd_20 ct_20 oc_21 kV_21 dc_21 pm_21 cd_21 ct_21 : Value} {t0 t1 t2 t3 t4 : Tok} {nT : Nat} 
    (a0 : PySem.W.nsIn K mainGlobals "is_character" = some (some (.ref f0)))
    (l0 : K.lookup f0 = some ⟨oc0, od0, .func (PySem.W.fnOf "is_character" "is_character" (defArgs sIsCharacter) (defBody sIsCharacter) (defScope sIsCharacter) .none kV0 dc0 pm0 an0 cd0 ct0), sl0⟩)
    (c0 : PySem.W.codeIn K cd0 "is_character" = true)
    (k0 : PySem.W.keepIn K (.ref f0) = true)
    (a1 : PySem.W.nsIn K mainGlobals "is_text" = some (some (.ref f1)))
    (l1 : K.lookup f1 = some ⟨oc1, od1, .func (PySem.W.fnOf "is_text" "is_text" (defArgs sIsText) (defBody sIsText) (defScope sIsText) .none kV1 dc1 pm1 an1 cd1 ct1), sl1⟩)
    (c1 : PySem.W.codeIn K cd1 "is_text" = true)
    (k1 : PySem.W.keepIn K (.ref f1) = true)
    (a2 : PySem.W.nsIn K mainGlobals "is_integer" = some (some (.ref f2)))
    (l2 : K.lookup f2 = some ⟨oc2, od2, .func (PySem.W.fnOf "is_integer" "is_integer" (defArgs sIsInteger) (defBody sIsInteger) (defScope sIsInteger) .none kV2 dc2 pm2 an2 cd2 ct2), sl2⟩)
    (c2 : PySem.W.codeIn K cd2 "is_integer" = true)
    (k2 : PySem.W.keepIn K (.ref f2) = true)
    (a3 : PySem.W.nsIn K mainGlobals "is_step" = some (some (.ref f3)))
    (l3 : K.lookup f3 = some ⟨oc3, od3, .func (PySem.W.fnOf "is_step" "is_step" (defArgs sIsStep) (defBody sIsStep) (defScope sIsStep) .none kV3 dc3 pm3 an3 cd3 ct3), sl3⟩)
    (c3 : PySem.W.codeIn K cd3 "is_step" = true)
    (k3 : PySem.W.keepIn K (.ref f3) = true)
    (a4 : PySem.W.nsIn K mainGlobals "_is_choice" = some (some (.ref f4)))
    (l4 : K.lookup f4 = some ⟨oc4, od4, .func (PySem.W.fnOf "_is_choice" "_is_choice" (defArgs sIsChoice) (defBody sIsChoice) (defScope sIsChoice) .none kV4 dc4 pm4 an4 cd4 ct4), sl4⟩)
    (c4 : PySem.W.codeIn K cd4 "_is_choice" = true)
    (k4 : PySem.W.keepIn K (.ref f4) = true)
    (a5 : PySem.W.nsIn K mainGlobals "made_by_steps" = some (some (.ref f5)))
    (l5 : K.lookup f5 = some ⟨oc5, od5, .func (PySem.W.fnOf "made_by_steps" "made_by_steps" (defArgs sMadeBySteps) (defBody sMadeBySteps) (defScope sMadeBySteps) .none kV5 dc5 pm5 an5 cd5 ct5), sl5⟩)
    (c5 : PySem.W.codeIn K cd5 "made_by_steps" = true)
    (k5 : PySem.W.keepIn K (.ref f5) = true)
    (a6 : PySem.W.nsIn K mainGlobals "made_by_step" = some (some (.ref f6)))
    (l6 : K.lookup f6 = some ⟨oc6, od6, .func (PySem.W.fnOf "made_by_step" "made_by_step" (defArgs sMadeByStep) (defBody sMadeByStep) (defScope sMadeByStep) .none kV6 dc6 pm6 an6 cd6 ct6), sl6⟩)
    (c6 : PySem.W.codeIn K cd6 "made_by_step" = true)
    (k6 : PySem.W.keepIn K (.ref f6) = true)
    (a7 : PySem.W.nsIn K mainGlobals "_once" = some (some (.ref f7)))
    (l7 : K.lookup f7 = some ⟨oc7, od7, .func (PySem.W.fnOf "_once" "_once" (defArgs sOnce) (defBody sOnce) (defScope sOnce) .none kV7 dc7 pm7 an7 cd7 ct7), sl7⟩)
    (c7 : PySem.W.codeIn K cd7 "_once" = true)
    (k7 : PySem.W.keepIn K (.ref f7) = true)
    (a8 : PySem.W.nsIn K mainGlobals "_check_text" = some (some (.ref f8)))
    (l8 : K.lookup f8 = some ⟨oc8, od8, .func (PySem.W.fnOf "_check_text" "_check_text" (defArgs sCheckText) (defBody sCheckText) (defScope sCheckText) .none kV8 dc8 pm8 an8 cd8 ct8), sl8⟩)
    (c8 : PySem.W.codeIn K cd8 "_check_text" = true)
    (k8 : PySem.W.keepIn K (.ref f8) = true)
    (a9 : PySem.W.nsIn K mainGlobals "_check_texts" = some (some (.ref f9)))
    (l9 : K.lookup f9 = some ⟨oc9, od9, .func (PySem.W.fnOf "_check_texts" "_check_texts" (defArgs sCheckTexts) (defBody sCheckTexts) (defScope sCheckTexts) .none kV9 dc9 pm9 an9 cd9 ct9), sl9⟩)
    (c9 : PySem.W.codeIn K cd9 "_check_texts" = true)
    (k9 : PySem.W.keepIn K (.ref f9) = true)
    (a10 : PySem.W.nsIn K mainGlobals "_law_well" = some (some (.ref f10)))
    (l10 : K.lookup f10 = some ⟨oc10, od10, .func (PySem.W.fnOf "_law_well" "_law_well" (defArgs sLawWell) (defBody sLawWell) (defScope sLawWell) .none kV10 dc10 pm10 an10 cd10 ct10), sl10⟩)
    (c10 : PySem.W.codeIn K cd10 "_law_well" = true)
    (k10 : PySem.W.keepIn K (.ref f10) = true)
    (a11 : PySem.W.nsIn K mainGlobals "_law_draw" = some (some (.ref f11)))
    (l11 : K.lookup f11 = some ⟨oc11, od11, .func (PySem.W.fnOf "_law_draw" "_law_draw" (defArgs sLawDraw) (defBody sLawDraw) (defScope sLawDraw) .none kV11 dc11 pm11 an11 cd11 ct11), sl11⟩)
    (c11 : PySem.W.codeIn K cd11 "_law_draw" = true)
    (k11 : PySem.W.keepIn K (.ref f11) = true)
    (a12 : PySem.W.nsIn K mainGlobals "_law_chars" = some (some (.ref f12)))
    (l12 : K.lookup f12 = some ⟨oc12, od12, .func (PySem.W.fnOf "_law_chars" "_law_chars" (defArgs sLawChars) (defBody sLawChars) (defScope sLawChars) .none kV12 dc12 pm12 an12 cd12 ct12), sl12⟩)
    (c12 : PySem.W.codeIn K cd12 "_law_chars" = true)
    (k12 : PySem.W.keepIn K (.ref f12) = true)
    (a13 : PySem.W.nsIn K mainGlobals "_law_pool" = some (some (.ref f13)))
    (l13 : K.lookup f13 = some ⟨oc13, od13, .func (PySem.W.fnOf "_law_pool" "_law_pool" (defArgs sLawPool) (defBody sLawPool) (defScope sLawPool) .none kV13 dc13 pm13 an13 cd13 ct13), sl13⟩)
    (c13 : PySem.W.codeIn K cd13 "_law_pool" = true)
    (k13 : PySem.W.keepIn K (.ref f13) = true)
    (a14 : PySem.W.nsIn K mainGlobals "_law_character" = some (some (.ref f14)))
    (l14 : K.lookup f14 = some ⟨oc14, od14, .func (PySem.W.fnOf "_law_character" "_law_character" (defArgs sLawCharacter) (defBody sLawCharacter) (defScope sLawCharacter) .none kV14 dc14 pm14 an14 cd14 ct14), sl14⟩)
    (c14 : PySem.W.codeIn K cd14 "_law_character" = true)
    (k14 : PySem.W.keepIn K (.ref f14) = true)
    (a15 : PySem.W.nsIn K mainGlobals "_law_step" = some (some (.ref f15)))
    (l15 : K.lookup f15 = some ⟨oc15, od15, .func (PySem.W.fnOf "_law_step" "_law_step" (defArgs sLawStep) (defBody sLawStep) (defScope sLawStep) .none kV15 dc15 pm15 an15 cd15 ct15), sl15⟩)
    (c15 : PySem.W.codeIn K cd15 "_law_step" = true)
    (k15 : PySem.W.keepIn K (.ref f15) = true)
    (a16 : PySem.W.nsIn K mainGlobals "_law_steps" = some (some (.ref f16)))
    (l16 : K.lookup f16 = some ⟨oc16, od16, .func (PySem.W.fnOf "_law_steps" "_law_steps" (defArgs sLawSteps) (defBody sLawSteps) (defScope sLawSteps) .none kV16 dc16 pm16 an16 cd16 ct16), sl16⟩)
    (c16 : PySem.W.codeIn K cd16 "_law_steps" = true)
    (k16 : PySem.W.keepIn K (.ref f16) = true)
    (a17 : PySem.W.nsIn K mainGlobals "_law_doors" = some (some (.ref f17)))
    (l17 : K.lookup f17 = some ⟨oc17, od17, .func (PySem.W.fnOf "_law_doors" "_law_doors" (defArgs sLawDoors) (defBody sLawDoors) (defScope sLawDoors) .none kV17 dc17 pm17 an17 cd17 ct17), sl17⟩)
    (c17 : PySem.W.codeIn K cd17 "_law_doors" = true)
    (k17 : PySem.W.keepIn K (.ref f17) = true)
    (a18 : PySem.W.nsIn K mainGlobals "_law_fold" = some (some (.ref f18)))
    (l18 : K.lookup f18 = some ⟨oc18, od18, .func (PySem.W.fnOf "_law_fold" "_law_fold" (defArgs sLawFold) (defBody sLawFold) (defScope sLawFold) .none kV18 dc18 pm18 an18 cd18 ct18), sl18⟩)
    (c18 : PySem.W.codeIn K cd18 "_law_fold" = true)
    (k18 : PySem.W.keepIn K (.ref f18) = true)
    (a19 : PySem.W.nsIn K mainGlobals "_law_text" = some (some (.ref f19)))
    (l19 : K.lookup f19 = some ⟨oc19, od19, .func (PySem.W.fnOf "_law_text" "_law_text" (defArgs sLawText) (defBody sLawText) (defScope sLawText) .none kV19 dc19 pm19 an19 cd19 ct19), sl19⟩)
    (c19 : PySem.W.codeIn K cd19 "_law_text" = true)
    (k19 : PySem.W.keepIn K (.ref f19) = true)
    (a20 : PySem.W.nsIn K mainGlobals "_law_same" = some (some (.ref f20)))
    (l20 : K.lookup f20 = some ⟨oc20, od20, .func (PySem.W.fnOf "_law_same" "_law_same" (defArgs sLawSame) (defBody sLawSame) (defScope sLawSame) .none kV20 dc20 pm20 an20 cd20 ct20), sl20⟩)
    (c20 : PySem.W.codeIn K cd20 "_law_same" = true)
    (k20 : PySem.W.keepIn K (.ref f20) = true)
    (a21 : PySem.W.nsIn K mainGlobals "_law_put" = some (some (.ref f21)))
    (l21 : K.lookup f21 = some ⟨oc21, od21, .func (PySem.W.fnOf "_law_put" "_law_put" (defArgs sLawPut) (defBody sLawPut) (defScope sLawPut) .none kV21 dc21 pm21 an21 cd21 ct21), sl21⟩)
    (c21 : PySem.W.codeIn K cd21 "_law_put" = true)
    (k21 : PySem.W.keepIn K (.ref f21) = true)
    (a22 : PySem.W.nsIn K mainGlobals "_law_strike" = some (some (.ref f22)))
    (l22 : K.lookup f22 = some ⟨oc22, od22, .func (PySem.W.fnOf "_law_strike" "_law_strike" (defArgs sLawStrike) (defBody sLawStrike) (defScope sLawStrike) .none kV22 dc22 pm22 an22 cd22 ct22), sl22⟩)
    (c22 : PySem.W.codeIn K cd22 "_law_strike" = true)
    (k22 : PySem.W.keepIn K (.ref f22) = true)
    (a23 : PySem.W.nsIn K mainGlobals "_law_find" = some (some (.ref f23)))
    (l23 : K.lookup f23 = some ⟨oc23, od23, .func (PySem.W.fnOf "_law_find" "_law_find" (defArgs sLawFind) (defBody sLawFind) (defScope sLawFind) .none kV23 dc23 pm23 an23 cd23 ct23), sl23⟩)
    (c23 : PySem.W.codeIn K cd23 "_law_find" = true)
    (k23 : PySem.W.keepIn K (.ref f23) = true)
    (a24 : PySem.W.nsIn K mainGlobals "_law_gates" = some (some (.ref f24)))
    (l24 : K.lookup f24 = some ⟨oc24, od24, .func (PySem.W.fnOf "_law_gates" "_law_gates" (defArgs sLawGates) (defBody sLawGates) (defScope sLawGates) .none kV24 dc24 pm24 an24 cd24 ct24), sl24⟩)
    (c24 : PySem.W.codeIn K cd24 "_law_gates" = true)
    (k24 : PySem.W.keepIn K (.ref f24) = true)
    (a25 : PySem.W.nsIn K mainGlobals "_law_forms_are" = some (some (.ref f25)))
    (l25 : K.lookup f25 = some ⟨oc25, od25, .func (PySem.W.fnOf "_law_forms_are" "_law_forms_are" (defArgs sLawFormsAre) (defBody sLawFormsAre) (defScope sLawFormsAre) .none kV25 dc25 pm25 an25 cd25 ct25), sl25⟩)
    (c25 : PySem.W.codeIn K cd25 "_law_forms_are" = true)
    (k25 : PySem.W.keepIn K (.ref f25) = true)
    (a26 : PySem.W.nsIn K mainGlobals "_law_found" = some (some (.ref f26)))
    (l26 : K.lookup f26 = some ⟨oc26, od26, .func (PySem.W.fnOf "_law_found" "_law_found" (defArgs sLawFound) (defBody sLawFound) (defScope sLawFound) .none kV26 dc26 pm26 an26 cd26 ct26), sl26⟩)
    (c26 : PySem.W.codeIn K cd26 "_law_found" = true)
    (k26 : PySem.W.keepIn K (.ref f26) = true)
    (a27 : PySem.W.nsIn K mainGlobals "_law_start" = some (some (.ref f27)))
    (l27 : K.lookup f27 = some ⟨oc27, od27, .func (PySem.W.fnOf "_law_start" "_law_start" (defArgs sLawStart) (defBody sLawStart) (defScope sLawStart) .none kV27 dc27 pm27 an27 cd27 ct27), sl27⟩)
    (c27 : PySem.W.codeIn K cd27 "_law_start" = true)
    (k27 : PySem.W.keepIn K (.ref f27) = true)
    (a28 : PySem.W.nsIn K mainGlobals "_law_used" = some (some (.ref f28)))
    (l28 : K.lookup f28 = some ⟨oc28, od28, .func (PySem.W.fnOf "_law_used" "_law_used" (defArgs sLawUsed) (defBody sLawUsed) (defScope sLawUsed) .none kV28 dc28 pm28 an28 cd28 ct28), sl28⟩)
    (c28 : PySem.W.codeIn K cd28 "_law_used" = true)
    (k28 : PySem.W.keepIn K (.ref f28) = true)
    (a29 : PySem.W.nsIn K mainGlobals "_law_undo" = some (some (.ref f29)))
    (l29 : K.lookup f29 = some ⟨oc29, od29, .func (PySem.W.fnOf "_law_undo" "_law_undo" (defArgs sLawUndo) (defBody sLawUndo) (defScope sLawUndo) .none kV29 dc29 pm29 an29 cd29 ct29), sl29⟩)
    (c29 : PySem.W.codeIn K cd29 "_law_undo" = true)
    (k29 : PySem.W.keepIn K (.ref f29) = true)
    (a30 : PySem.W.nsIn K mainGlobals "_law_bad_text" = some (some (.ref f30)))
    (l30 : K.lookup f30 = some ⟨oc30, od30, .func (PySem.W.fnOf "_law_bad_text" "_law_bad_text" (defArgs sLawBadText) (defBody sLawBadText) (defScope sLawBadText) .none kV30 dc30 pm30 an30 cd30 ct30), sl30⟩)
    (c30 : PySem.W.codeIn K cd30 "_law_bad_text" = true)
    (k30 : PySem.W.keepIn K (.ref f30) = true)
    (a31 : PySem.W.nsIn K mainGlobals "_law_refused" = some (some (.ref f31)))
    (l31 : K.lookup f31 = some ⟨oc31, od31, .func (PySem.W.fnOf "_law_refused" "_law_refused" (defArgs sLawRefused) (defBody sLawRefused) (defScope sLawRefused) .none kV31 dc31 pm31 an31 cd31 ct31), sl31⟩)
    (c31 : PySem.W.codeIn K cd31 "_law_refused" = true)
    (k31 : PySem.W.keepIn K (.ref f31) = true)
    (a32 : PySem.W.nsIn K mainGlobals "_law_based" = some (some (.ref f32)))
    (l32 : K.lookup f32 = some ⟨oc32, od32, .func (PySem.W.fnOf "_law_based" "_law_based" (defArgs sLawBased) (defBody sLawBased) (defScope sLawBased) .none kV32 dc32 pm32 an32 cd32 ct32), sl32⟩)
    (c32 : PySem.W.codeIn K cd32 "_law_based" = true)
    (k32 : PySem.W.keepIn K (.ref f32) = true)
    (a33 : PySem.W.nsIn K mainGlobals "_law_nothing" = some (some (.ref f33)))
    (l33 : K.lookup f33 = some ⟨oc33, od33, .func (PySem.W.fnOf "_law_nothing" "_law_nothing" (defArgs sLawNothing) (defBody sLawNothing) (defScope sLawNothing) .none kV33 dc33 pm33 an33 cd33 ct33), sl33⟩)
    (c33 : PySem.W.codeIn K cd33 "_law_nothing" = true)
    (k33 : PySem.W.keepIn K (.ref f33) = true)
    (a34 : PySem.W.nsIn K mainGlobals "law" = some (some (.ref f34)))
    (l34 : K.lookup f34 = some ⟨oc34, od34, .func (PySem.W.fnOf "law" "law" (defArgs sLaw) (defBody sLaw) (defScope sLaw) .none kV34 dc34 pm34 an34 cd34 ct34), sl34⟩)
    (c34 : PySem.W.codeIn K cd34 "law" = true)
    (k34 : PySem.W.keepIn K (.ref f34) = true)
    (aC : PySem.W.nsIn K mainGlobals "Folding" = some (some (.ref C)))
    (aD : PySem.W.nsIn K mainGlobals "Doors" = some (some (.ref D)))
    (aCS : PySem.W.nsIn K mainGlobals "Shelf" = some (some (.ref CS)))
    (a_0 : PySem.W.findIn K (.ref C) "__init__" = some (some (.ref g0)))
    (i_0 : PySem.W.isFn K (.ref g0) = true)
    (l_0 : K.lookup g0 = some ⟨oc_0, od_0, .func (PySem.W.fnOf "__init__" "Folding.__init__" (defArgs sFoldingInit) (defBody sFoldingInit) (defScope sFoldingInit) (.ref Td) kV_0 dc_0 pm_0 an_0 cd_0 ct_0), sl_0⟩)
    (c_0 : PySem.W.codeIn K cd_0 "Folding.__init__" = true)
    (k_0 : PySem.W.keepIn K (.ref g0) = true)
    (lT : K.lookup Td = some ⟨ocT, odT, .seq #[.ref Ed] nT, slT⟩)
    (a_1 : PySem.W.findIn K (.ref C) "__call__" = some (some (.ref g1)))
    (i_1 : PySem.W.isFn K (.ref g1) = true)
    (l_1 : K.lookup g1 = some ⟨oc_1, od_1, .func (PySem.W.fnOf "__call__" "Folding.__call__" (defArgs sFoldingCall) (defBody sFoldingCall) (defScope sFoldingCall) .none kV_1 dc_1 pm_1 an_1 cd_1 ct_1), sl_1⟩)
    (c_1 : PySem.W.codeIn K cd_1 "Folding.__call__" = true)
    (k_1 : PySem.W.keepIn K (.ref g1) = true)
    (fi_1 : PySem.W.fnIn K g1 = true)
    (a_2 : PySem.W.findIn K (.ref C) "__len__" = some (some (.ref g2)))
    (i_2 : PySem.W.isFn K (.ref g2) = true)
    (l_2 : K.lookup g2 = some ⟨oc_2, od_2, .func (PySem.W.fnOf "__len__" "Folding.__len__" (defArgs sFoldingLen) (defBody sFoldingLen) (defScope sFoldingLen) .none kV_2 dc_2 pm_2 an_2 cd_2 ct_2), sl_2⟩)
    (c_2 : PySem.W.codeIn K cd_2 "Folding.__len__" = true)
    (k_2 : PySem.W.keepIn K (.ref g2) = true)
    (a_3 : PySem.W.findIn K (.ref C) "steps" = some (some (.ref g3)))
    (i_3 : PySem.W.isFn K (.ref g3) = true)
    (l_3 : K.lookup g3 = some ⟨oc_3, od_3, .func (PySem.W.fnOf "steps" "Folding.steps" (defArgs sFoldingSteps) (defBody sFoldingSteps) (defScope sFoldingSteps) .none kV_3 dc_3 pm_3 an_3 cd_3 ct_3), sl_3⟩)
    (c_3 : PySem.W.codeIn K cd_3 "Folding.steps" = true)
    (k_3 : PySem.W.keepIn K (.ref g3) = true)
    (a_4 : PySem.W.findIn K (.ref D) "__init__" = some (some (.ref g4)))
    (i_4 : PySem.W.isFn K (.ref g4) = true)
    (l_4 : K.lookup g4 = some ⟨oc_4, od_4, .func (PySem.W.fnOf "__init__" "Doors.__init__" (defArgs sDoorsInit) (defBody sDoorsInit) (defScope sDoorsInit) .none kV_4 dc_4 pm_4 an_4 cd_4 ct_4), sl_4⟩)
    (c_4 : PySem.W.codeIn K cd_4 "Doors.__init__" = true)
    (k_4 : PySem.W.keepIn K (.ref g4) = true)
    (a_5 : PySem.W.findIn K (.ref D) "put" = some (some (.ref g5)))
    (i_5 : PySem.W.isFn K (.ref g5) = true)
    (l_5 : K.lookup g5 = some ⟨oc_5, od_5, .func (PySem.W.fnOf "put" "Doors.put" (defArgs sDoorsPut) (defBody sDoorsPut) (defScope sDoorsPut) .none kV_5 dc_5 pm_5 an_5 cd_5 ct_5), sl_5⟩)
    (c_5 : PySem.W.codeIn K cd_5 "Doors.put" = true)
    (k_5 : PySem.W.keepIn K (.ref g5) = true)
    (a_6 : PySem.W.findIn K (.ref D) "find" = some (some (.ref g6)))
    (i_6 : PySem.W.isFn K (.ref g6) = true)
    (l_6 : K.lookup g6 = some ⟨oc_6, od_6, .func (PySem.W.fnOf "find" "Doors.find" (defArgs sDoorsFind) (defBody sDoorsFind) (defScope sDoorsFind) .none kV_6 dc_6 pm_6 an_6 cd_6 ct_6), sl_6⟩)
    (c_6 : PySem.W.codeIn K cd_6 "Doors.find" = true)
    (k_6 : PySem.W.keepIn K (.ref g6) = true)
    (a_7 : PySem.W.findIn K (.ref D) "strike" = some (some (.ref g7)))
    (i_7 : PySem.W.isFn K (.ref g7) = true)
    (l_7 : K.lookup g7 = some ⟨oc_7, od_7, .func (PySem.W.fnOf "strike" "Doors.strike" (defArgs sDoorsStrike) (defBody sDoorsStrike) (defScope sDoorsStrike) .none kV_7 dc_7 pm_7 an_7 cd_7 ct_7), sl_7⟩)
    (c_7 : PySem.W.codeIn K cd_7 "Doors.strike" = true)
    (k_7 : PySem.W.keepIn K (.ref g7) = true)
    (a_8 : PySem.W.findIn K (.ref D) "wish" = some (some (.ref g8)))
    (i_8 : PySem.W.isFn K (.ref g8) = true)
    (l_8 : K.lookup g8 = some ⟨oc_8, od_8, .func (PySem.W.fnOf "wish" "Doors.wish" (defArgs sDoorsWish) (defBody sDoorsWish) (defScope sDoorsWish) .none kV_8 dc_8 pm_8 an_8 cd_8 ct_8), sl_8⟩)
    (c_8 : PySem.W.codeIn K cd_8 "Doors.wish" = true)
    (k_8 : PySem.W.keepIn K (.ref g8) = true)
    (a_9 : PySem.W.findIn K (.ref CS) "__init__" = some (some (.ref g9)))
    (i_9 : PySem.W.isFn K (.ref g9) = true)
    (l_9 : K.lookup g9 = some ⟨oc_9, od_9, .func (PySem.W.fnOf "__init__" "Shelf.__init__" (defArgs sShelfInit) (defBody sShelfInit) (defScope sShelfInit) .none kV_9 dc_9 pm_9 an_9 cd_9 ct_9), sl_9⟩)
    (c_9 : PySem.W.codeIn K cd_9 "Shelf.__init__" = true)
    (k_9 : PySem.W.keepIn K (.ref g9) = true)
    (a_10 : PySem.W.findIn K (.ref CS) "__len__" = some (some (.ref g10)))
    (i_10 : PySem.W.isFn K (.ref g10) = true)
    (l_10 : K.lookup g10 = some ⟨oc_10, od_10, .func (PySem.W.fnOf "__len__" "Shelf.__len__" (defArgs sShelfLen) (defBody sShelfLen) (defScope sShelfLen) .none kV_10 dc_10 pm_10 an_10 cd_10 ct_10), sl_10⟩)
    (c_10 : PySem.W.codeIn K cd_10 "Shelf.__len__" = true)
    (k_10 : PySem.W.keepIn K (.ref g10) = true)
    (a_11 : PySem.W.findIn K (.ref CS) "__contains__" = some (some (.ref g11)))
    (i_11 : PySem.W.isFn K (.ref g11) = true)
    (l_11 : K.lookup g11 = some ⟨oc_11, od_11, .func (PySem.W.fnOf "__contains__" "Shelf.__contains__" (defArgs sShelfContains) (defBody sShelfContains) (defScope sShelfContains) .none kV_11 dc_11 pm_11 an_11 cd_11 ct_11), sl_11⟩)
    (c_11 : PySem.W.codeIn K cd_11 "Shelf.__contains__" = true)
    (k_11 : PySem.W.keepIn K (.ref g11) = true)
    (a_12 : PySem.W.findIn K (.ref CS) "put" = some (some (.ref g12)))
    (i_12 : PySem.W.isFn K (.ref g12) = true)
    (l_12 : K.lookup g12 = some ⟨oc_12, od_12, .func (PySem.W.fnOf "put" "Shelf.put" (defArgs sShelfPut) (defBody sShelfPut) (defScope sShelfPut) .none kV_12 dc_12 pm_12 an_12 cd_12 ct_12), sl_12⟩)
    (c_12 : PySem.W.codeIn K cd_12 "Shelf.put" = true)
    (k_12 : PySem.W.keepIn K (.ref g12) = true)
    (a_13 : PySem.W.findIn K (.ref CS) "find" = some (some (.ref g13)))
    (i_13 : PySem.W.isFn K (.ref g13) = true)
    (l_13 : K.lookup g13 = some ⟨oc_13, od_13, .func (PySem.W.fnOf "find" "Shelf.find" (defArgs sShelfFind) (defBody sShelfFind) (defScope sShelfFind) .none kV_13 dc_13 pm_13 an_13 cd_13 ct_13), sl_13⟩)
    (c_13 : PySem.W.codeIn K cd_13 "Shelf.find" = true)
    (k_13 : PySem.W.keepIn K (.ref g13) = true)
    (a_14 : PySem.W.findIn K (.ref CS) "strike" = some (some (.ref g14)))
    (i_14 : PySem.W.isFn K (.ref g14) = true)
    (l_14 : K.lookup g14 = some ⟨oc_14, od_14, .func (PySem.W.fnOf "strike" "Shelf.strike" (defArgs sShelfStrike) (defBody sShelfStrike) (defScope sShelfStrike) .none kV_14 dc_14 pm_14 an_14 cd_14 ct_14), sl_14⟩)
    (c_14 : PySem.W.codeIn K cd_14 "Shelf.strike" = true)
    (k_14 : PySem.W.keepIn K (.ref g14) = true)
    (a_15 : PySem.W.findIn K (.ref CS) "put_all" = some (some (.ref g15)))
    (i_15 : PySem.W.isFn K (.ref g15) = true)
    (l_15 : K.lookup g15 = some ⟨oc_15, od_15, .func (PySem.W.fnOf "put_all" "Shelf.put_all" (defArgs sShelfPutAll) (defBody sShelfPutAll) (defScope sShelfPutAll) .none kV_15 dc_15 pm_15 an_15 cd_15 ct_15), sl_15⟩)
    (c_15 : PySem.W.codeIn K cd_15 "Shelf.put_all" = true)
    (k_15 : PySem.W.keepIn K (.ref g15) = true)
    (a_16 : PySem.W.findIn K (.ref CS) "forms" = some (some (.ref g16)))
    (i_16 : PySem.W.isFn K (.ref g16) = true)
    (l_16 : K.lookup g16 = some ⟨oc_16, od_16, .func (PySem.W.fnOf "forms" "Shelf.forms" (defArgs sShelfForms) (defBody sShelfForms) (defScope sShelfForms) .none kV_16 dc_16 pm_16 an_16 cd_16 ct_16), sl_16⟩)
    (c_16 : PySem.W.codeIn K cd_16 "Shelf.forms" = true)
    (k_16 : PySem.W.keepIn K (.ref g16) = true)
    (a_17 : PySem.W.findIn K (.ref CS) "first_text" = some (some (.ref g17)))
    (i_17 : PySem.W.isFn K (.ref g17) = true)
    (l_17 : K.lookup g17 = some ⟨oc_17, od_17, .func (PySem.W.fnOf "first_text" "Shelf.first_text" (defArgs sShelfFirstText) (defBody sShelfFirstText) (defScope sShelfFirstText) .none kV_17 dc_17 pm_17 an_17 cd_17 ct_17), sl_17⟩)
    (c_17 : PySem.W.codeIn K cd_17 "Shelf.first_text" = true)
    (k_17 : PySem.W.keepIn K (.ref g17) = true)
    (a_18 : PySem.W.findIn K (.ref CS) "_form_put" = some (some (.ref g18)))
    (i_18 : PySem.W.isFn K (.ref g18) = true)
    (l_18 : K.lookup g18 = some ⟨oc_18, od_18, .func (PySem.W.fnOf "_form_put" "Shelf._form_put" (defArgs sShelfFormPut) (defBody sShelfFormPut) (defScope sShelfFormPut) .none kV_18 dc_18 pm_18 an_18 cd_18 ct_18), sl_18⟩)
    (c_18 : PySem.W.codeIn K cd_18 "Shelf._form_put" = true)
    (k_18 : PySem.W.keepIn K (.ref g18) = true)
    (a_19 : PySem.W.findIn K (.ref CS) "_enter" = some (some (.ref g19)))
    (i_19 : PySem.W.isFn K (.ref g19) = true)
    (l_19 : K.lookup g19 = some ⟨oc_19, od_19, .func (PySem.W.fnOf "_enter" "Shelf._enter" (defArgs sShelfEnter) (defBody sShelfEnter) (defScope sShelfEnter) .none kV_19 dc_19 pm_19 an_19 cd_19 ct_19), sl_19⟩)
    (c_19 : PySem.W.codeIn K cd_19 "Shelf._enter" = true)
    (k_19 : PySem.W.keepIn K (.ref g19) = true)
    (a_20 : PySem.W.findIn K (.ref CS) "_note" = some (some (.ref g20)))
    (i_20 : PySem.W.isFn K (.ref g20) = true)
    (l_20 : K.lookup g20 = some ⟨oc_20, od_20, .func (PySem.W.fnOf "_note" "Shelf._note" (defArgs sShelfNote) (defBody sShelfNote) (defScope sShelfNote) .none kV_20 dc_20 pm_20 an_20 cd_20 ct_20), sl_20⟩)
    (c_20 : PySem.W.codeIn K cd_20 "Shelf._note" = true)
    (k_20 : PySem.W.keepIn K (.ref g20) = true)
    (a_21 : PySem.W.findIn K (.ref CS) "undo" = some (some (.ref g21)))
    (i_21 : PySem.W.isFn K (.ref g21) = true)
    (l_21 : K.lookup g21 = some ⟨oc_21, od_21, .func (PySem.W.fnOf "undo" "Shelf.undo" (defArgs sShelfUndo) (defBody sShelfUndo) (defScope sShelfUndo) .none kV_21 dc_21 pm_21 an_21 cd_21 ct_21), sl_21⟩)
    (c_21 : PySem.W.codeIn K cd_21 "Shelf.undo" = true)
    (k_21 : PySem.W.keepIn K (.ref g21) = true)
    (pg : PySem.W.plainGet K C Str.empty = true)
    (hd : PySem.W.hasDictIn K C = true)
    (po : PySem.W.plainOver K C = true)
    (sa : PySem.W.findIn K (.ref C) "__setattr__" = some (some (.builtin "object.__setattr__")))
    (mkC : PySem.W.makesIn K C = true)
    (kc : PySem.W.keepIn K (.ref C) = true)
    (pgD : PySem.W.plainGet K D Str.empty = true)
    (hdD : PySem.W.hasDictIn K D = true)
    (poD : PySem.W.plainOver K D = true)
    (saD : PySem.W.findIn K (.ref D) "__setattr__" = some (some (.builtin "object.__setattr__")))
    (mkD : PySem.W.makesIn K D = true)
    (kcD : PySem.W.keepIn K (.ref D) = true)
    (nD0 : PySem.W.findIn K (.ref D) "_put" = some none)
    (nD1 : PySem.W.findIn K (.ref D) "_find" = some none)
    (nD2 : PySem.W.findIn K (.ref D) "_strike" = some none)
    (nD3 : PySem.W.findIn K (.ref D) "_wish" = some none)
    (pgCS : PySem.W.plainGet K CS Str.empty = true)
    (hdCS : PySem.W.hasDictIn K CS = true)
    (poCS : PySem.W.plainOver K CS = true)
    (saCS : PySem.W.findIn K (.ref CS) "__setattr__" = some (some (.builtin "object.__setattr__")))
    (mkCS : PySem.W.makesIn K CS = true)
    (kcCS : PySem.W.keepIn K (.ref CS) = true)
    (nCS0 : PySem.W.findIn K (.ref CS) "_doors" = some none)
    (nCS1 : PySem.W.findIn K (.ref CS) "_table" = some none)
    (nCS2 : PySem.W.findIn K (.ref CS) "_turn" = some none)
    (nCS3 : PySem.W.findIn K (.ref CS) "_past" = some none)
    (xc : PySem.W.findIn K (.ref C) "__class__" = some (some (.builtin "object.__class__")))
    (xn : PySem.W.specialIn K (.builtin "object.__class__") "__get__" = some (some (.builtin "getset_descriptor.__get__")))
    (xt : PySem.W.takesIn K (.builtin "object.__class__") = some true)
    (xm : PySem.W.mroIn K C (.type "object") = some true)
    (nl : PySem.W.nsIn K mainGlobals "list" = some none)
    (nso : PySem.W.nsIn K mainGlobals "sorted" = some none)
    (eg1N : PySem.W.nsIn K mainGlobals "NoText" = some (some (.ref CN)))
    (ex1N : PySem.W.excIn K CN [.type "ValueError", .type "Exception", .type "BaseException", .type "object"] "ValueError.__new__" = true)
    (ek1N : PySem.W.keepIn K (.ref CN) = true)
    (eb1N : PySem.W.subIn K (.ref CN) (.type "BaseException") = some true)
    (et1N : PySem.W.typeIn K (.ref CN) = some (.type "type"))
    (ei1N : PySem.W.isClsIn K CN = true)
    (es1N : PySem.W.subIn K (.ref CN) (.ref CN) = some true)
    (eg1U : PySem.W.nsIn K mainGlobals "NothingToUndo" = some (some (.ref CU)))
    (ex1U : PySem.W.excIn K CU [.type "ValueError", .type "Exception", .type "BaseException", .type "object"] "ValueError.__new__" = true)
    (ek1U : PySem.W.keepIn K (.ref CU) = true)
    (eb1U : PySem.W.subIn K (.ref CU) (.type "BaseException") = some true)
    (et1U : PySem.W.typeIn K (.ref CU) = some (.type "type"))
    (ei1U : PySem.W.isClsIn K CU = true)
    (es1U : PySem.W.subIn K (.ref CU) (.ref CU) = some true)
    (eg2P : PySem.W.nsIn K mainGlobals "PlainError" = some (some (.ref CP)))
    (ei2P : PySem.W.isClsIn K CP = true)
    (et2P : PySem.W.typeIn K (.ref CP) = some (.type "type"))
    (eg2F : PySem.W.nsIn K mainGlobals "NoForm" = some (some (.ref CF)))
    (ei2F : PySem.W.isClsIn K CF = true)
    (et2F : PySem.W.typeIn K (.ref CF) = some (.type "type"))
    (fgN : PySem.W.findIn K (.ref CN) "__getattribute__" = some (some (.builtin "BaseException.__getattribute__")))
    (fkN : PySem.W.findIn K (.ref CN) "__getattr__" = some none)
    (fdN : PySem.W.hasDictIn K CN = true)
    (faN : PySem.W.findIn K (.ref CN) "__class__" = some (some (.builtin "object.__class__")))
    (fnN : PySem.W.specialIn K (.builtin "object.__class__") "__get__" = some (some (.builtin "getset_descriptor.__get__")))
    (ftN : PySem.W.takesIn K (.builtin "object.__class__") = some true)
    (fmN : PySem.W.mroIn K CN (.type "object") = some true)
    (bbP : PySem.W.subIn K (.ref CP) (.type "BaseException") = some true)
    (bdP : PySem.W.hasDictIn K CP = true)
    (bsP : PySem.W.subIn K (.ref CN) (.ref CP) = some true)
    (sNV : PySem.W.subIn K (.ref CN) (.type "ValueError") = some true)
    (sNF : PySem.W.subIn K (.ref CN) (.ref CF) = some false)
    (sNU : PySem.W.subIn K (.ref CN) (.ref CU) = some false)
    (nV : PySem.W.nsIn K mainGlobals "ValueError" = some none)
    (n0 : PySem.W.findIn K (.ref C) "_steps" = some none)
    (v0 : PySem.W.nsIn K mainGlobals "CHARACTERS" = some (some (.str "abcdefghijklmnopqrstuvwxyzABCDEFGHIJKLMNOPQRSTUVWXYZ0123456789 -._/'" t0)))
    (v1 : PySem.W.nsIn K mainGlobals "LONGEST_TEXT" = some (some (.int 60 t1)))
    (v2 : PySem.W.nsIn K mainGlobals "MOST_DROPPED" = some (some (.int 10 t2)))
    (v3 : PySem.W.nsIn K mainGlobals "LONGEST_CUT" = some (some (.int 9 t3)))
    (v4 : PySem.W.nsIn K mainGlobals "MOST_STEPS" = some (some (.int 6 t4)))
    (z0 : PySem.W.nsIn K mainGlobals "len" = some none)
    (z1 : PySem.W.nsIn K mainGlobals "int" = some none)
    (z2 : PySem.W.nsIn K mainGlobals "abs" = some none)
    (z3 : PySem.W.nsIn K mainGlobals "max" = some none)
    (z4 : PySem.W.nsIn K mainGlobals "min" = some none)
    (z5 : PySem.W.nsIn K mainGlobals "range" = some none)
    (z6 : PySem.W.nsIn K mainGlobals "isinstance" = some none)
    (z7 : PySem.W.nsIn K mainGlobals "str" = some none)
    (z8 : PySem.W.nsIn K mainGlobals "tuple" = some none)
    (z9 : PySem.W.nsIn K mainGlobals "bool" = some none)
    (z10 : PySem.W.nsIn K mainGlobals "all" = some none)
    (z11 : PySem.W.nsIn K mainGlobals "set" = some none)
    (z12 : PySem.W.nsIn K mainGlobals "enumerate" = some none)
    (zs : PySem.W.nsIn K cStatics sharingNotToldKey = some none) :
    ∃ fd : FuncData, (∀ (s : Shared) (v : Value), BindsTo s fd ⟨[v], []⟩ [("script", v)]) ∧ ∀ base : Heap, K.In base → base.Ns mainGlobals mg → FnOk l.prog w K mg base CX0 8 fa fd ["script"] (spLaw K) := by
  have e := hfa.symm.trans (PySem.W.mg_of X G a34)
  cases e
  have T : Nms mg := by
    constructor
    · exact PySem.W.mg_none_of X G z0
    · exact PySem.W.mg_none_of X G z1
    · exact PySem.W.mg_none_of X G z2
    · exact PySem.W.mg_none_of X G z3
    · exact PySem.W.mg_none_of X G z4
    · exact PySem.W.mg_none_of X G z5
    · exact PySem.W.mg_none_of X G z6
    · exact PySem.W.mg_none_of X G z7
    · exact PySem.W.mg_none_of X G z8
    · exact PySem.W.mg_none_of X G z9
    · exact PySem.W.mg_none_of X G z10
    · exact PySem.W.mg_none_of X G z11
    · exact PySem.W.mg_none_of X G z12
  have Cs : Cst mg := by
    constructor
    · exact ⟨_, PySem.W.mg_of X G v0⟩
    · exact ⟨_, PySem.W.mg_of X G v1⟩
    · exact ⟨_, PySem.W.mg_of X G v2⟩
    · exact ⟨_, PySem.W.mg_of X G v3⟩
    · exact ⟨_, PySem.W.mg_of X G v4⟩
  have F0 := fun_mk (st := sIsCharacter) l0 c0 k0
  have b0 := F0.binds (ps := ["value"]) fun _ _ _ _ _ _ us hl => match us, hl with | [_], _ => rfl
  have m0 := PySem.W.mg_of X G a0
  have F1 := fun_mk (st := sIsText) l1 c1 k1
  have b1 := F1.binds (ps := ["value"]) fun _ _ _ _ _ _ us hl => match us, hl with | [_], _ => rfl
  have m1 := PySem.W.mg_of X G a1
  have F2 := fun_mk (st := sIsInteger) l2 c2 k2
  have b2 := F2.binds (ps := ["value"]) fun _ _ _ _ _ _ us hl => match us, hl with | [_], _ => rfl
  have m2 := PySem.W.mg_of X G a2
  have F3 := fun_mk (st := sIsStep) l3 c3 k3
  have b3 := F3.binds (ps := ["value"]) fun _ _ _ _ _ _ us hl => match us, hl with | [_], _ => rfl
  have m3 := PySem.W.mg_of X G a3
  have F4 := fun_mk (st := sIsChoice) l4 c4 k4
  have b4 := F4.binds (ps := ["value"]) fun _ _ _ _ _ _ us hl => match us, hl with | [_], _ => rfl
  have m4 := PySem.W.mg_of X G a4
  have F5 := fun_mk (st := sMadeBySteps) l5 c5 k5
  have b5 := F5.binds (ps := ["steps", "text"]) fun _ _ _ _ _ _ us hl => match us, hl with | [_, _], _ => rfl
  have m5 := PySem.W.mg_of X G a5
  have F6 := fun_mk (st := sMadeByStep) l6 c6 k6
  have b6 := F6.binds (ps := ["step", "text"]) fun _ _ _ _ _ _ us hl => match us, hl with | [_, _], _ => rfl
  have m6 := PySem.W.mg_of X G a6
  have F7 := fun_mk (st := sOnce) l7 c7 k7
  have b7 := F7.binds (ps := ["text", "single"]) fun _ _ _ _ _ _ us hl => match us, hl with | [_, _], _ => rfl
  have m7 := PySem.W.mg_of X G a7
  have F8 := fun_mk (st := sCheckText) l8 c8 k8
  have b8 := F8.binds (ps := ["value"]) fun _ _ _ _ _ _ us hl => match us, hl with | [_], _ => rfl
  have m8 := PySem.W.mg_of X G a8
  have F9 := fun_mk (st := sCheckTexts) l9 c9 k9
  have b9 := F9.binds (ps := ["value"]) fun _ _ _ _ _ _ us hl => match us, hl with | [_], _ => rfl
  have m9 := PySem.W.mg_of X G a9
  have F10 := fun_mk (st := sLawWell) l10 c10 k10
  have b10 := F10.binds (ps := ["script", "k"]) fun _ _ _ _ _ _ us hl => match us, hl with | [_, _], _ => rfl
  have m10 := PySem.W.mg_of X G a10
  have F11 := fun_mk (st := sLawDraw) l11 c11 k11
  have b11 := F11.binds (ps := ["well", "many"]) fun _ _ _ _ _ _ us hl => match us, hl with | [_, _], _ => rfl
  have m11 := PySem.W.mg_of X G a11
  have F12 := fun_mk (st := sLawChars) l12 c12 k12
  have b12 := F12.binds (ps := []) fun _ _ _ _ _ _ us hl => match us, hl with | [], _ => rfl
  have m12 := PySem.W.mg_of X G a12
  have F13 := fun_mk (st := sLawPool) l13 c13 k13
  have b13 := F13.binds (ps := ["well"]) fun _ _ _ _ _ _ us hl => match us, hl with | [_], _ => rfl
  have m13 := PySem.W.mg_of X G a13
  have F14 := fun_mk (st := sLawCharacter) l14 c14 k14
  have b14 := F14.binds (ps := ["well", "pool"]) fun _ _ _ _ _ _ us hl => match us, hl with | [_, _], _ => rfl
  have m14 := PySem.W.mg_of X G a14
  have F15 := fun_mk (st := sLawStep) l15 c15 k15
  have b15 := F15.binds (ps := ["well", "pool"]) fun _ _ _ _ _ _ us hl => match us, hl with | [_, _], _ => rfl
  have m15 := PySem.W.mg_of X G a15
  have F16 := fun_mk (st := sLawSteps) l16 c16 k16
  have b16 := F16.binds (ps := ["well", "pool"]) fun _ _ _ _ _ _ us hl => match us, hl with | [_, _], _ => rfl
  have m16 := PySem.W.mg_of X G a16
  have F17 := fun_mk (st := sLawDoors) l17 c17 k17
  have b17 := F17.binds (ps := ["well", "pool"]) fun _ _ _ _ _ _ us hl => match us, hl with | [_, _], _ => rfl
  have m17 := PySem.W.mg_of X G a17
  have F18 := fun_mk (st := sLawFold) l18 c18 k18
  have b18 := F18.binds (ps := ["steps", "text"]) fun _ _ _ _ _ _ us hl => match us, hl with | [_, _], _ => rfl
  have m18 := PySem.W.mg_of X G a18
  have F19 := fun_mk (st := sLawText) l19 c19 k19
  have b19 := F19.binds (ps := ["well", "pool", "used"]) fun _ _ _ _ _ _ us hl => match us, hl with | [_, _, _], _ => rfl
  have m19 := PySem.W.mg_of X G a19
  have F20 := fun_mk (st := sLawSame) l20 c20 k20
  have b20 := F20.binds (ps := ["actual", "expected"]) fun _ _ _ _ _ _ us hl => match us, hl with | [_, _], _ => rfl
  have m20 := PySem.W.mg_of X G a20
  have F21 := fun_mk (st := sLawPut) l21 c21 k21
  have b21 := F21.binds (ps := ["state", "text"]) fun _ _ _ _ _ _ us hl => match us, hl with | [_, _], _ => rfl
  have m21 := PySem.W.mg_of X G a21
  have F22 := fun_mk (st := sLawStrike) l22 c22 k22
  have b22 := F22.binds (ps := ["state", "text"]) fun _ _ _ _ _ _ us hl => match us, hl with | [_, _], _ => rfl
  have m22 := PySem.W.mg_of X G a22
  have F23 := fun_mk (st := sLawFind) l23 c23 k23
  have b23 := F23.binds (ps := ["state", "text"]) fun _ _ _ _ _ _ us hl => match us, hl with | [_, _], _ => rfl
  have m23 := PySem.W.mg_of X G a23
  have F24 := fun_mk (st := sLawGates) l24 c24 k24
  have b24 := F24.binds (ps := ["four"]) fun _ _ _ _ _ _ us hl => match us, hl with | [_], _ => rfl
  have m24 := PySem.W.mg_of X G a24
  have F25 := fun_mk (st := sLawFormsAre) l25 c25 k25
  have b25 := F25.binds (ps := ["shelf", "state", "turn"]) fun _ _ _ _ _ _ us hl => match us, hl with | [_, _, _], _ => rfl
  have m25 := PySem.W.mg_of X G a25
  have F26 := fun_mk (st := sLawFound) l26 c26 k26
  have b26 := F26.binds (ps := ["shelf", "state", "texts"]) fun _ _ _ _ _ _ us hl => match us, hl with | [_, _, _], _ => rfl
  have m26 := PySem.W.mg_of X G a26
  have F27 := fun_mk (st := sLawStart) l27 c27 k27
  have b27 := F27.binds (ps := ["script", "many"]) fun _ _ _ _ _ _ us hl => match us, hl with | [_, _], _ => rfl
  have m27 := PySem.W.mg_of X G a27
  have F28 := fun_mk (st := sLawUsed) l28 c28 k28
  have b28 := F28.binds (ps := ["used", "text"]) fun _ _ _ _ _ _ us hl => match us, hl with | [_, _], _ => rfl
  have m28 := PySem.W.mg_of X G a28
  have F29 := fun_mk (st := sLawUndo) l29 c29 k29
  have b29 := F29.binds (ps := ["state"]) fun _ _ _ _ _ _ us hl => match us, hl with | [_], _ => rfl
  have m29 := PySem.W.mg_of X G a29
  have F30 := fun_mk (st := sLawBadText) l30 c30 k30
  have b30 := F30.binds (ps := ["well", "text"]) fun _ _ _ _ _ _ us hl => match us, hl with | [_, _], _ => rfl
  have m30 := PySem.W.mg_of X G a30
  have F31 := fun_mk (st := sLawRefused) l31 c31 k31
  have b31 := F31.binds (ps := ["shelf", "way", "thing"]) fun _ _ _ _ _ _ us hl => match us, hl with | [_, _, _], _ => rfl
  have m31 := PySem.W.mg_of X G a31
  have F32 := fun_mk (st := sLawBased) l32 c32 k32
  have b32 := F32.binds (ps := ["shelf", "thing"]) fun _ _ _ _ _ _ us hl => match us, hl with | [_, _], _ => rfl
  have m32 := PySem.W.mg_of X G a32
  have F33 := fun_mk (st := sLawNothing) l33 c33 k33
  have b33 := F33.binds (ps := ["shelf"]) fun _ _ _ _ _ _ us hl => match us, hl with | [_], _ => rfl
  have m33 := PySem.W.mg_of X G a33
  have F34 := fun_mk (st := sLaw) l34 c34 k34
  have b34 := F34.binds (ps := ["script"]) fun _ _ _ _ _ _ us hl => match us, hl with | [_], _ => rfl
  have m34 := PySem.W.mg_of X G a34
  have Z : Fcl K mg C := ⟨⟨pg, hd, po, sa⟩, n0, PySem.W.mg_of X G aC⟩
  have FI : FunD K "__init__" "Folding.__init__" (defArgs sFoldingInit) (defBody sFoldingInit) (defScope sFoldingInit) [.ref Ed] [] g0 (PySem.W.fnOf "__init__" "Folding.__init__" (defArgs sFoldingInit) (defBody sFoldingInit) (defScope sFoldingInit) (.ref Td) kV_0 dc_0 pm_0 an_0 cd_0 ct_0) := ⟨⟨_, _, _, _, _, _, _, _, _, _, rfl, l_0, c_0, .inr ⟨List.cons_ne_nil _ _, Td, _, [.ref Ed], nT, rfl, lT, rfl, .cons rfl .nil⟩, .inl rfl⟩, k_0⟩
  have FC := fun_mk (st := sFoldingCall) l_1 c_1 k_1
  have bC := FC.binds (ps := ["self", "text"]) fun _ _ _ _ _ _ us hl => match us, hl with | [_, _], _ => rfl
  have bI : Binds K (PySem.W.fnOf "__init__" "Folding.__init__" (defArgs sFoldingInit) (defBody sFoldingInit) (defScope sFoldingInit) (.ref Td) kV_0 dc_0 pm_0 an_0 cd_0 ct_0) ["self", "steps"] [] := by
    obtain ⟨ds, r, b⟩ := FI.binds1 (ps := ["self", "steps"]) 2 1 (List.cons_ne_nil _ _) rfl fun T kV doc pm an cdv ct us its h1 h2 => match us, its, h1, h2 with
      | [_, _], [_], _, _ => ⟨_, rfl, rfl⟩
    cases r
    exact b
  have FL := fun_mk (st := sFoldingLen) l_2 c_2 k_2
  have bL := FL.binds (ps := ["self"]) fun _ _ _ _ _ _ us hl => match us, hl with | [_], _ => rfl
  have FS := fun_mk (st := sFoldingSteps) l_3 c_3 k_3
  have bS := FS.binds (ps := ["self"]) fun _ _ _ _ _ _ us hl => match us, hl with | [_], _ => rfl
  have IC : C8.InsC K C := ⟨⟨pg, hd, po, sa⟩, xc, xn, xt, xm, by unfold PySem.W.kitOne; rw [if_pos (beq_self_eq_true _)]⟩
  have ZD : Dcl K mg D := ⟨⟨pgD, hdD, poD, saD⟩, nD0, nD1, nD2, nD3, PySem.W.mg_of X G aD⟩
  have FD0 := fun_mk (st := sDoorsInit) l_4 c_4 k_4
  have bD0 := FD0.binds (ps := ["self", "put", "find", "strike", "wish"]) fun _ _ _ _ _ _ us hl => match us, hl with | [_, _, _, _, _], _ => rfl
  have FD1 := fun_mk (st := sDoorsPut) l_5 c_5 k_5
  have bD1 := FD1.binds (ps := ["self"]) fun _ _ _ _ _ _ us hl => match us, hl with | [_], _ => rfl
  have FD2 := fun_mk (st := sDoorsFind) l_6 c_6 k_6
  have bD2 := FD2.binds (ps := ["self"]) fun _ _ _ _ _ _ us hl => match us, hl with | [_], _ => rfl
  have FD3 := fun_mk (st := sDoorsStrike) l_7 c_7 k_7
  have bD3 := FD3.binds (ps := ["self"]) fun _ _ _ _ _ _ us hl => match us, hl with | [_], _ => rfl
  have FD4 := fun_mk (st := sDoorsWish) l_8 c_8 k_8
  have bD4 := FD4.binds (ps := ["self"]) fun _ _ _ _ _ _ us hl => match us, hl with | [_], _ => rfl
  have FM9 := fun_mk (st := sShelfInit) l_9 c_9 k_9
  have bM9 := FM9.binds (ps := ["self", "doors"]) fun _ _ _ _ _ _ us hl => match us, hl with | [_, _], _ => rfl
  have FM10 := fun_mk (st := sShelfLen) l_10 c_10 k_10
  have bM10 := FM10.binds (ps := ["self"]) fun _ _ _ _ _ _ us hl => match us, hl with | [_], _ => rfl
  have FM11 := fun_mk (st := sShelfContains) l_11 c_11 k_11
  have bM11 := FM11.binds (ps := ["self", "x"]) fun _ _ _ _ _ _ us hl => match us, hl with | [_, _], _ => rfl
  have FM12 := fun_mk (st := sShelfPut) l_12 c_12 k_12
  have bM12 := FM12.binds (ps := ["self", "text"]) fun _ _ _ _ _ _ us hl => match us, hl with | [_, _], _ => rfl
  have FM13 := fun_mk (st := sShelfFind) l_13 c_13 k_13
  have bM13 := FM13.binds (ps := ["self", "text"]) fun _ _ _ _ _ _ us hl => match us, hl with | [_, _], _ => rfl
  have FM14 := fun_mk (st := sShelfStrike) l_14 c_14 k_14
  have bM14 := FM14.binds (ps := ["self", "text"]) fun _ _ _ _ _ _ us hl => match us, hl with | [_, _], _ => rfl
  have FM15 := fun_mk (st := sShelfPutAll) l_15 c_15 k_15
  have bM15 := FM15.binds (ps := ["self", "texts"]) fun _ _ _ _ _ _ us hl => match us, hl with | [_, _], _ => rfl
  have FM16 := fun_mk (st := sShelfForms) l_16 c_16 k_16
  have bM16 := FM16.binds (ps := ["self"]) fun _ _ _ _ _ _ us hl => match us, hl with | [_], _ => rfl
  have FM17 := fun_mk (st := sShelfFirstText) l_17 c_17 k_17
  have bM17 := FM17.binds (ps := ["self", "form"]) fun _ _ _ _ _ _ us hl => match us, hl with | [_, _], _ => rfl
  have FM18 := fun_mk (st := sShelfFormPut) l_18 c_18 k_18
  have bM18 := FM18.binds (ps := ["self", "text"]) fun _ _ _ _ _ _ us hl => match us, hl with | [_, _], _ => rfl
  have FM19 := fun_mk (st := sShelfEnter) l_19 c_19 k_19
  have bM19 := FM19.binds (ps := ["self", "form", "text"]) fun _ _ _ _ _ _ us hl => match us, hl with | [_, _, _], _ => rfl
  have FM20 := fun_mk (st := sShelfNote) l_20 c_20 k_20
  have bM20 := FM20.binds (ps := ["self", "added", "struck"]) fun _ _ _ _ _ _ us hl => match us, hl with | [_, _, _], _ => rfl
  have FM21 := fun_mk (st := sShelfUndo) l_21 c_21 k_21
  have bM21 := FM21.binds (ps := ["self"]) fun _ _ _ _ _ _ us hl => match us, hl with | [_], _ => rfl
  have VN : ExV K mg "NoText" CN := ⟨PySem.W.mg_of X G eg1N, ex1N, ek1N, eb1N, et1N⟩
  have SN := exm_me eb1N ei1N et1N es1N
  have VU : ExV K mg "NothingToUndo" CU := ⟨PySem.W.mg_of X G eg1U, ex1U, ek1U, eb1U, et1U⟩
  have SU := exm_me eb1U ei1U et1U es1U
  refine ⟨PySem.W.fnOf "law" "law" (defArgs sLaw) (defBody sLaw) (defScope sLaw) .none kV34 dc34 pm34 an34 cd34 ct34, fun s v => .of_eq rfl, fun base KB GB => ?_⟩
  have Cchar : Cl l.prog w K mg base 1 "is_character" spIsChar := ⟨f0, _, _, ok_isChar F0 T Cs, m0, k0, b0⟩
  have Ctext : Cl l.prog w K mg base 1 "is_text" spIsText := ⟨f1, _, _, ok_isText F1 T Cs, m1, k1, b1⟩
  have Cint : Cl l.prog w K mg base 1 "is_integer" spIsInt := ⟨f2, _, _, ok_isInt F2 T, m2, k2, b2⟩
  have Cchoice : Cl l.prog w K mg base 2 "_is_choice" spIsChoice := ⟨f4, _, _, ok_isChoice F4 T Cs Cchar, m4, k4, b4⟩
  have Cstep : Cl l.prog w K mg base 3 "is_step" spIsStep := ⟨f3, _, _, ok_isStep F3 T Cs Cchar Cchoice Cint, m3, k3, b3⟩
  have Conce : Cl l.prog w K mg base 1 "_once" spOnce := ⟨f7, _, _, ok_once F7 T, m7, k7, b7⟩
  have Cmbs : Cl l.prog w K mg base 2 "made_by_step" spMade := ⟨f6, _, _, ok_madeByStep F6 T zs Conce, m6, k6, b6⟩
  have Cmss : Cl l.prog w K mg base 3 "made_by_steps" (spMadeSteps K) := ⟨f5, _, _, ok_madeBySteps F5 Cmbs, m5, k5, b5⟩
  have Fl : Fol l.prog w K mg base C := ⟨⟨g0, _, ⟨mkC, a_0, i_0, kc⟩, ok_finit FI T Cs Z Cstep, bI⟩, ⟨g1, _, ⟨a_1, i_1, fi_1⟩, ok_fcall FC T Z Ctext Cmss, bC⟩, Z.mgC⟩
  have Fs : FolS l.prog w K mg base C := ⟨Z.cl, ⟨g2, _, a_2, i_2, ok_flen FL T Z, bL⟩, ⟨g3, _, ⟨a_3, i_3, k_3⟩, ok_fsteps FS Z, bS⟩⟩
  have Dd : Drs l.prog w K mg base D := ⟨ZD, ⟨g4, _, ⟨mkD, a_4, i_4, kcD⟩, ok_dinit FD0 ZD, bD0⟩, ⟨g5, _, ⟨a_5, i_5, k_5⟩, ok_dput FD1 ZD, bD1⟩, ⟨g6, _, ⟨a_6, i_6, k_6⟩, ok_dfind FD2 ZD, bD2⟩, ⟨g7, _, ⟨a_7, i_7, k_7⟩, ok_dstrike FD3 ZD, bD3⟩, ⟨g8, _, ⟨a_8, i_8, k_8⟩, ok_dwish FD4 ZD, bD4⟩⟩
  have ZS : Scl K mg CS := ⟨⟨pgCS, hdCS, poCS, saCS⟩, nCS0, nCS1, nCS2, nCS3, PySem.W.mg_of X G aCS⟩
  have ml : mg "list" = none := PySem.W.mg_none_of X G nl
  have mS : mg "sorted" = none := PySem.W.mg_none_of X G nso
  have Cct : Cl l.prog w K mg base 2 "_check_text" spCheckT := ⟨f8, _, _, ok_checkT F8 Ctext, m8, k8, b8⟩
  have Ccts : Cl l.prog w K mg base 3 "_check_texts" (spCheckTs K) := ⟨f9, _, _, ok_checkTs F9 T ml Cct, m9, k9, b9⟩
  have M1 : Mt l.prog w K mg base CS 4 "_form_put" ["self", "text"] (spFormPut K C D CS) := ⟨⟨g18, _, ⟨a_18, i_18, k_18⟩, ok_sformPut FM18 ZS Dd Fs Cmss, bM18⟩⟩
  have M2 : Mt l.prog w K mg base CS 1 "_enter" ["self", "form", "text"] (spEnter CS) := ⟨⟨g19, _, ⟨a_19, i_19, k_19⟩, ok_senter FM19 ZS, bM19⟩⟩
  have M3 : Mt l.prog w K mg base CS 1 "_note" ["self", "added", "struck"] (spNote CS) := ⟨⟨g20, _, ⟨a_20, i_20, k_20⟩, ok_snote FM20 ZS, bM20⟩⟩
  have MI : InM l.prog w K mg base CS 4 "__contains__" ["self", "x"] (spSIn K C D CS) := ⟨⟨g11, _, a_11, i_11, ok_sin FM11 ZS Dd Fs Ctext Cmss, bM11⟩⟩
  have ML : InM l.prog w K mg base CS 1 "__len__" ["self"] (spSLen CS) := ⟨⟨g10, _, a_10, i_10, ok_slen FM10 T ZS, bM10⟩⟩
  have MAf := ok_sputAll FM15 ZS Ccts M1 M2 M3
  have MA : Mt l.prog w K mg base CS 5 "put_all" ["self", "texts"] (spPutAll K C D CS) := ⟨⟨g15, _, ⟨a_15, i_15, k_15⟩, MAf, bM15⟩⟩
  have MP : Mt l.prog w K mg base CS 6 "put" ["self", "text"] (spSPut K C D CS) := ⟨⟨g12, _, ⟨a_12, i_12, k_12⟩, ok_sput FM12 ZS MA, bM12⟩⟩
  have MS : Mt l.prog w K mg base CS 4 "strike" ["self", "text"] (spSStrike K C D CS) := ⟨⟨g14, _, ⟨a_14, i_14, k_14⟩, ok_sstrike FM14 ZS Dd Fs Cct Cmss M3, bM14⟩⟩
  have MFd : Mt l.prog w K mg base CS 5 "find" ["self", "text"] (spSFind K C D CS) := ⟨⟨g13, _, ⟨a_13, i_13, k_13⟩, ok_sfind FM13 Cct MI, bM13⟩⟩
  have MFo : Mt l.prog w K mg base CS 1 "forms" ["self"] (spSForms CS) := ⟨⟨g16, _, ⟨a_16, i_16, k_16⟩, ok_sforms FM16 mS ZS, bM16⟩⟩
  have MFt : Mt l.prog w K mg base CS 1 "first_text" ["self", "form"] (spSFirst CS) := ⟨⟨g17, _, ⟨a_17, i_17, k_17⟩, ok_sfirst FM17 T ZS, bM17⟩⟩
  have MN : Mt l.prog w K mg base CS 1 "undo" ["self"] (spSUndo K C D CS) := ⟨⟨g21, _, ⟨a_21, i_21, k_21⟩, ok_sundo FM21 ZS, bM21⟩⟩
  have Cwell : Cl l.prog w K mg base 1 "_law_well" (spJar K) := ⟨f10, _, _, ok_well F10 T, m10, k10, b10⟩
  have Cdraw : Cl l.prog w K mg base 1 "_law_draw" spDraw := ⟨f11, _, _, ok_bdraw F11 T, m11, k11, b11⟩
  have Cchars : Cl l.prog w K mg base 1 "_law_chars" spChars := ⟨f12, _, _, ok_chars F12, m12, k12, b12⟩
  have Cpool : Cl l.prog w K mg base 2 "_law_pool" spPool := ⟨f13, _, _, ok_pool F13 T Cdraw Cchars, m13, k13, b13⟩
  have Cchr : ClT l.prog w K mg base 2 "_law_character" spCharacter := ⟨f14, ok_character F14 Cdraw Cchars, m14, k14⟩
  have Cust : ClB l.prog w K mg base 3 "_law_step" spUstep := ⟨f15, ok_ustep F15 T Cdraw Cchr, m15, k15⟩
  have Curo : ClB l.prog w K mg base 4 "_law_steps" (spUrow K) := ⟨f16, ok_urow F16 T Cdraw Cust, m16, k16⟩
  have Cudo : ClB l.prog w K mg base 5 "_law_doors" (spUdoors K) := ⟨f17, ok_udoors F17 T Cdraw Cust Curo, m17, k17⟩
  have Cfo : ClN l.prog w K mg base 1 "_law_fold" (spLFold K) := ⟨f18, fun n => ok_lfold n F18 T zs, m18, k18⟩
  have Ctx : Cl l.prog w K mg base 3 "_law_text" spTxt := ⟨f19, _, _, ok_ltext F19 T Cdraw Cchr, m19, k19, b19⟩
  have Csame : Cl l.prog w K mg base 3 "_law_same" (spSame K 2) := ⟨f20, _, _, ok_same F20 T m20 k20 b20 2, m20, k20, b20⟩
  have Clp : ClN l.prog w K mg base 2 "_law_put" (spLPut K) := ⟨f21, fun n => ok_lput n F21 ml Cfo, m21, k21⟩
  have Cls' : ClN l.prog w K mg base 2 "_law_strike" (spLStrike K) := ⟨f22, fun n => ok_lstrike n F22 T ml Cfo, m22, k22⟩
  have Clf : ClN l.prog w K mg base 2 "_law_find" (spLFind K) := ⟨f23, fun n => ok_lfind n F23 Cfo, m23, k23⟩
  have Cga : Cl l.prog w K mg base 6 "_law_gates" (spGates K C D) := ⟨f24, _, _, ok_gates F24 Fl Dd, m24, k24, b24⟩
  have Cfa : Cl l.prog w K mg base 4 "_law_forms_are" (spLForms K C D CS) := ⟨f25, _, _, ok_lforms F25 T mS ml ZS ML MFo MFt Csame, m25, k25, b25⟩
  have Cfd : ClN l.prog w K mg base 6 "_law_found" (spLFound K C D CS) := ⟨f26, fun n => ok_lfound n F26 T ZS Clf MFd MI, m26, k26⟩
  have Cst : ClB l.prog w K mg base 7 "_law_start" (spStart K C D CS) := ⟨f27, ok_start F27 T ZS Cwell Cpool Cudo Cga ⟨g9, _, ⟨mkCS, a_9, i_9, kcCS⟩, ok_sinit FM9 ZS, bM9⟩, m27, k27⟩
  have Cus : Cl l.prog w K mg base 1 "_law_used" spLUsed := ⟨f28, _, _, ok_lused F28 T, m28, k28, b28⟩
  have Cun : Cl l.prog w K mg base 1 "_law_undo" (spLUndo K) := ⟨f29, _, _, ok_lundo F29, m29, k29, b29⟩
  have Cxt : Cl l.prog w K mg base 1 "is_text" (spIsTextX K) := ⟨f1, _, _, ok_isTextX F1 T Cs, m1, k1, b1⟩
  have Ect : ClE l.prog w K mg base 2 "_check_text" (spCheckTX K CN) := ⟨⟨f8, _, ["value"], ok_checkTX F8 VN Cxt, m8, k8, b8⟩⟩
  have Ects : ClE l.prog w K mg base 3 "_check_texts" (spCheckTsX K CN) := ⟨⟨f9, _, ["value"], ok_checkTsX F9 T ml Ect, m9, k9, b9⟩⟩
  have XA : MtE l.prog w K mg base CS 4 "put_all" ["self", "texts"] (spPutAllX K CN CS) := ⟨⟨g15, _, ⟨a_15, i_15, k_15⟩, ok_sputAllX FM15 Ects, bM15⟩⟩
  have XI' : InM l.prog w K mg base CS 4 "__contains__" ["self", "x"] (spSInX K CS) := ⟨⟨g11, _, a_11, i_11, ok_sinX FM11 ZS Dd Fs Cxt Cmss, bM11⟩⟩
  have XS : ShW l.prog w K mg base CS CN CP CF CU := ⟨⟨⟨g12, _, ⟨a_12, i_12, k_12⟩, ok_sputX FM12 ZS XA, bM12⟩⟩, ⟨⟨g13, _, ⟨a_13, i_13, k_13⟩, ok_sfindX FM13 Ect, bM13⟩⟩, ⟨⟨g14, _, ⟨a_14, i_14, k_14⟩, ok_sstrikeX FM14 Ect, bM14⟩⟩, ⟨⟨g21, _, ⟨a_21, i_21, k_21⟩, ok_sundoX FM21 ZS VU, bM21⟩⟩, VN.g, PySem.W.mg_of X G eg2P, PySem.W.mg_of X G eg2F, VU.g, PySem.W.mg_none_of X G nV, SN, PySem.W.exm_ref bbP bdP et2P bsP, SU, ⟨fgN, fkN, eb1N, fdN, faN, fnN, ftN, fmN⟩, kit_ty_ref sNV, kit_ref_no ei2F et2F sNF es1N, kit_ref_no ei1U et1U sNU es1N⟩
  have Cbt : Cl l.prog w K mg base 2 "_law_bad_text" (spBad K) := ⟨f30, _, _, ok_lbad F30 T Cdraw, m30, k30, b30⟩
  have Cre : Cl l.prog w K mg base 6 "_law_refused" (spLRefused K CS) := ⟨f31, _, _, ok_lrefused F31 ZS XS, m31, k31, b31⟩
  have Cba : Cl l.prog w K mg base 6 "_law_based" (spLBased K CS) := ⟨f32, _, _, ok_lbased F32 T ZS XS, m32, k32, b32⟩
  have Cno : Cl l.prog w K mg base 2 "_law_nothing" (spLNothing CS) := ⟨f33, _, _, ok_lnothing F33 ZS XS, m33, k33, b33⟩
  exact ok_law F34 T ZS Cwell Cdraw Cst Cno Cus Ctx Cbt MP MS Clp Cls' Cre Cba XI' Cun MN Cfa Cfd
theorem walk {l : PySem.W.OpenLaw} {q : Program} {loose : List Str} {XP : (Str → Option Value) → Heap → Prop} {YP : World → Heap → Prop} {d : DefRec} {K : Params → PySem.W.Frag} (hn : l.most = some 63) (hdf : d.params.defaults = [])
    (hY : ∀ (w : World) (h : Heap), YP w h → (K w.params).In h)
    (F : ∀ (w : World) (mg : Str → Option Value) (fa : Addr) (h : Heap), (K w.params).In h → h.Ns mainGlobals mg → mg d.name = some (.ref fa) →
      ∃ fd : FuncData, (∀ (s : Shared) (u : Value), BindsTo s fd ⟨[u], []⟩ [("script", u)]) ∧ ∀ base : Heap, (K w.params).In base → base.Ns mainGlobals mg → FnOk l.prog w (K w.params) mg base CX0 8 fa fd ["script"] (spLaw (K w.params))) :
    PySem.W.WalkO q loose XP YP l.row.toRowW d [] (fun f vs => PySem.call f vs) :=
  L2.walk_of (n := 63) (k := 8) (x := "script") (CX := fun _ => CX0) (sp := fun w => spLaw (K w.params)) hn (by decide) hdf ⟨rfl, by decide, by decide⟩ hY F (fun _ _ a ns hl _ hS => ⟨a, ns, rfl, hS, hl, fun _ => rfl⟩) fun _ _ _ _ _ z => z
end Pd
open PySem PySem.W PyProof.Rows
set_option maxRecDepth 100000 in
set_option maxHeartbeats 0 in
theorem PySem.Challenge.cw_plaindoors_k56_refused_texts_holds : PySem.Challenge.rw_plaindoors_k56_refused_texts.Holds := by
  w_on; o_law; k_head; (case hw => w_witness2)
  k_fill
  refine Pd.walk (l := PySem.Challenge.rw_plaindoors_k56_refused_texts) rfl rfl (fun w h Y => PySem.W.kIn_of Y) ?F
  case F =>
    intro w mg fa h KX G hmg
    refine' Pd.all_mk KX G hmg ?a0 ?l0 ?c0 ?k0 ?a1 ?l1 ?c1 ?k1 ?a2 ?l2 ?c2 ?k2 ?a3 ?l3 ?c3 ?k3 ?a4 ?l4 ?c4 ?k4 ?a5 ?l5 ?c5 ?k5 ?a6 ?l6 ?c6 ?k6 ?a7 ?l7 ?c7 ?k7 ?a8 ?l8 ?c8 ?k8 ?a9 ?l9 ?c9 ?k9 ?a10 ?l10 ?c10 ?k10 ?a11 ?l11 ?c11 ?k11 ?a12 ?l12 ?c12 ?k12 ?a13 ?l13 ?c13 ?k13 ?a14 ?l14 ?c14 ?k14 ?a15 ?l15 ?c15 ?k15 ?a16 ?l16 ?c16 ?k16 ?a17 ?l17 ?c17 ?k17 ?a18 ?l18 ?c18 ?k18 ?a19 ?l19 ?c19 ?k19 ?a20 ?l20 ?c20 ?k20 ?a21 ?l21 ?c21 ?k21 ?a22 ?l22 ?c22 ?k22 ?a23 ?l23 ?c23 ?k23 ?a24 ?l24 ?c24 ?k24 ?a25 ?l25 ?c25 ?k25 ?a26 ?l26 ?c26 ?k26 ?a27 ?l27 ?c27 ?k27 ?a28 ?l28 ?c28 ?k28 ?a29 ?l29 ?c29 ?k29 ?a30 ?l30 ?c30 ?k30 ?a31 ?l31 ?c31 ?k31 ?a32 ?l32 ?c32 ?k32 ?a33 ?l33 ?c33 ?k33 ?a34 ?l34 ?c34 ?k34 ?aC ?aD ?aCS ?a_0 ?i_0 ?l_0 ?c_0 ?k_0 ?lT ?a_1 ?i_1 ?l_1 ?c_1 ?k_1 ?fi_1 ?a_2 ?i_2 ?l_2 ?c_2 ?k_2 ?a_3 ?i_3 ?l_3 ?c_3 ?k_3 ?a_4 ?i_4 ?l_4 ?c_4 ?k_4 ?a_5 ?i_5 ?l_5 ?c_5 ?k_5 ?a_6 ?i_6 ?l_6 ?c_6 ?k_6 ?a_7 ?i_7 ?l_7 ?c_7 ?k_7 ?a_8 ?i_8 ?l_8 ?c_8 ?k_8 ?a_9 ?i_9 ?l_9 ?c_9 ?k_9 ?a_10 ?i_10 ?l_10 ?c_10 ?k_10 ?a_11 ?i_11 ?l_11 ?c_11 ?k_11 ?a_12 ?i_12 ?l_12 ?c_12 ?k_12 ?a_13 ?i_13 ?l_13 ?c_13 ?k_13 ?a_14 ?i_14 ?l_14 ?c_14 ?k_14 ?a_15 ?i_15 ?l_15 ?c_15 ?k_15 ?a_16 ?i_16 ?l_16 ?c_16 ?k_16 ?a_17 ?i_17 ?l_17 ?c_17 ?k_17 ?a_18 ?i_18 ?l_18 ?c_18 ?k_18 ?a_19 ?i_19 ?l_19 ?c_19 ?k_19 ?a_20 ?i_20 ?l_20 ?c_20 ?k_20 ?a_21 ?i_21 ?l_21 ?c_21 ?k_21 ?pg ?hd ?po ?sa ?mkC ?kc ?pgD ?hdD ?poD ?saD ?mkD ?kcD ?nD0 ?nD1 ?nD2 ?nD3 ?pgCS ?hdCS ?poCS ?saCS ?mkCS ?kcCS ?nCS0 ?nCS1 ?nCS2 ?nCS3 ?xc ?xn ?xt ?xm ?nl ?nso ?eg1N ?ex1N ?ek1N ?eb1N ?et1N ?ei1N ?es1N ?eg1U ?ex1U ?ek1U ?eb1U ?et1U ?ei1U ?es1U ?eg2P ?ei2P ?et2P ?eg2F ?ei2F ?et2F ?fgN ?fkN ?fdN ?faN ?fnN ?ftN ?fmN ?bbP ?bdP ?bsP ?sNV ?sNF ?sNU ?nV ?n0 ?v0 ?v1 ?v2 ?v3 ?v4 ?z0 ?z1 ?z2 ?z3 ?z4 ?z5 ?z6 ?z7 ?z8 ?z9 ?z10 ?z11 ?z12 ?zs
    (case a0 => k_is); (case l0 => k_is); (case c0 => k_is); (case k0 => k_is); (case a1 => k_is); (case l1 => k_is)
    (case c1 => k_is); (case k1 => k_is); (case a2 => k_is); (case l2 => k_is); (case c2 => k_is); (case k2 => k_is)
    (case a3 => k_is); (case l3 => k_is); (case c3 => k_is); (case k3 => k_is); (case a4 => k_is); (case l4 => k_is)
    (case c4 => k_is); (case k4 => k_is); (case a5 => k_is); (case l5 => k_is); (case c5 => k_is); (case k5 => k_is)
    (case a6 => k_is); (case l6 => k_is); (case c6 => k_is); (case k6 => k_is); (case a7 => k_is); (case l7 => k_is)
    (case c7 => k_is); (case k7 => k_is); (case a8 => k_is); (case l8 => k_is); (case c8 => k_is); (case k8 => k_is)
    (case a9 => k_is); (case l9 => k_is); (case c9 => k_is); (case k9 => k_is); (case a10 => k_is); (case l10 => k_is)
    (case c10 => k_is); (case k10 => k_is); (case a11 => k_is); (case l11 => k_is); (case c11 => k_is); (case k11 => k_is)
    (case a12 => k_is); (case l12 => k_is); (case c12 => k_is); (case k12 => k_is); (case a13 => k_is); (case l13 => k_is)
    (case c13 => k_is); (case k13 => k_is); (case a14 => k_is); (case l14 => k_is); (case c14 => k_is); (case k14 => k_is)
    (case a15 => k_is); (case l15 => k_is); (case c15 => k_is); (case k15 => k_is); (case a16 => k_is); (case l16 => k_is)
    (case c16 => k_is); (case k16 => k_is); (case a17 => k_is); (case l17 => k_is); (case c17 => k_is); (case k17 => k_is)
    (case a18 => k_is); (case l18 => k_is); (case c18 => k_is); (case k18 => k_is); (case a19 => k_is); (case l19 => k_is)
    (case c19 => k_is); (case k19 => k_is); (case a20 => k_is); (case l20 => k_is); (case c20 => k_is); (case k20 => k_is)
    (case a21 => k_is); (case l21 => k_is); (case c21 => k_is); (case k21 => k_is); (case a22 => k_is); (case l22 => k_is)
    (case c22 => k_is); (case k22 => k_is); (case a23 => k_is); (case l23 => k_is); (case c23 => k_is); (case k23 => k_is)
    (case a24 => k_is); (case l24 => k_is); (case c24 => k_is); (case k24 => k_is); (case a25 => k_is); (case l25 => k_is)
    (case c25 => k_is); (case k25 => k_is); (case a26 => k_is); (case l26 => k_is); (case c26 => k_is); (case k26 => k_is)
    (case a27 => k_is); (case l27 => k_is); (case c27 => k_is); (case k27 => k_is); (case a28 => k_is); (case l28 => k_is)
    (case c28 => k_is); (case k28 => k_is); (case a29 => k_is); (case l29 => k_is); (case c29 => k_is); (case k29 => k_is)
    (case a30 => k_is); (case l30 => k_is); (case c30 => k_is); (case k30 => k_is); (case a31 => k_is); (case l31 => k_is)
    (case c31 => k_is); (case k31 => k_is); (case a32 => k_is); (case l32 => k_is); (case c32 => k_is); (case k32 => k_is)
    (case a33 => k_is); (case l33 => k_is); (case c33 => k_is); (case k33 => k_is); (case a34 => k_is); (case l34 => k_is)
    (case c34 => k_is); (case k34 => k_is); (case aC => k_is); (case aD => k_is); (case aCS => k_is); (case a_0 => k_is)
    (case i_0 => k_is); (case l_0 => k_is); (case c_0 => k_is); (case k_0 => k_is); (case lT => k_is); (case a_1 => k_is)
    (case i_1 => k_is); (case l_1 => k_is); (case c_1 => k_is); (case k_1 => k_is); (case fi_1 => k_is); (case a_2 => k_is)
    (case i_2 => k_is); (case l_2 => k_is); (case c_2 => k_is); (case k_2 => k_is); (case a_3 => k_is); (case i_3 => k_is)
    (case l_3 => k_is); (case c_3 => k_is); (case k_3 => k_is); (case a_4 => k_is); (case i_4 => k_is); (case l_4 => k_is)
    (case c_4 => k_is); (case k_4 => k_is); (case a_5 => k_is); (case i_5 => k_is); (case l_5 => k_is); (case c_5 => k_is)
    (case k_5 => k_is); (case a_6 => k_is); (case i_6 => k_is); (case l_6 => k_is); (case c_6 => k_is); (case k_6 => k_is)
    (case a_7 => k_is); (case i_7 => k_is); (case l_7 => k_is); (case c_7 => k_is); (case k_7 => k_is); (case a_8 => k_is)
    (case i_8 => k_is); (case l_8 => k_is); (case c_8 => k_is); (case k_8 => k_is); (case a_9 => k_is); (case i_9 => k_is)
    (case l_9 => k_is); (case c_9 => k_is); (case k_9 => k_is); (case a_10 => k_is); (case i_10 => k_is); (case l_10 => k_is)
    (case c_10 => k_is); (case k_10 => k_is); (case a_11 => k_is); (case i_11 => k_is); (case l_11 => k_is); (case c_11 => k_is)
    (case k_11 => k_is); (case a_12 => k_is); (case i_12 => k_is); (case l_12 => k_is); (case c_12 => k_is); (case k_12 => k_is)
    (case a_13 => k_is); (case i_13 => k_is); (case l_13 => k_is); (case c_13 => k_is); (case k_13 => k_is); (case a_14 => k_is)
    (case i_14 => k_is); (case l_14 => k_is); (case c_14 => k_is); (case k_14 => k_is); (case a_15 => k_is); (case i_15 => k_is)
    (case l_15 => k_is); (case c_15 => k_is); (case k_15 => k_is); (case a_16 => k_is); (case i_16 => k_is); (case l_16 => k_is)
    (case c_16 => k_is); (case k_16 => k_is); (case a_17 => k_is); (case i_17 => k_is); (case l_17 => k_is); (case c_17 => k_is)
    (case k_17 => k_is); (case a_18 => k_is); (case i_18 => k_is); (case l_18 => k_is); (case c_18 => k_is); (case k_18 => k_is)
    (case a_19 => k_is); (case i_19 => k_is); (case l_19 => k_is); (case c_19 => k_is); (case k_19 => k_is); (case a_20 => k_is)
    (case i_20 => k_is); (case l_20 => k_is); (case c_20 => k_is); (case k_20 => k_is); (case a_21 => k_is); (case i_21 => k_is)
    (case l_21 => k_is); (case c_21 => k_is); (case k_21 => k_is); (case pg => k_is); (case hd => k_is); (case po => k_is)
    (case sa => k_is); (case mkC => k_is); (case kc => k_is); (case pgD => k_is); (case hdD => k_is); (case poD => k_is)
    (case saD => k_is); (case mkD => k_is); (case kcD => k_is); (case nD0 => k_is); (case nD1 => k_is); (case nD2 => k_is)
    (case nD3 => k_is); (case pgCS => k_is); (case hdCS => k_is); (case poCS => k_is); (case saCS => k_is); (case mkCS => k_is)
    (case kcCS => k_is); (case nCS0 => k_is); (case nCS1 => k_is); (case nCS2 => k_is); (case nCS3 => k_is); (case xc => k_is)
    (case xn => k_is); (case xt => k_is); (case xm => k_is); (case nl => k_is); (case nso => k_is); (case eg1N => k_is)
    (case ex1N => k_exc); (case ek1N => k_is); (case eb1N => k_is); (case et1N => k_is); (case ei1N => k_is); (case es1N => first | rfl | k_is)
    (case eg1U => k_is); (case ex1U => k_exc); (case ek1U => k_is); (case eb1U => k_is); (case et1U => k_is); (case ei1U => k_is)
    (case es1U => first | rfl | k_is); (case eg2P => k_is); (case ei2P => k_is); (case et2P => k_is); (case eg2F => k_is); (case ei2F => k_is)
    (case et2F => k_is); (case fgN => k_is); (case fkN => k_is); (case fdN => k_is); (case faN => k_is); (case fnN => k_is)
    (case ftN => k_is); (case fmN => k_is); (case bbP => k_is); (case bdP => k_is); (case bsP => k_is); (case sNV => k_is)
    (case sNF => k_is); (case sNU => k_is); (case nV => k_is); (case n0 => k_is); (case v0 => k_is); (case v1 => k_is)
    (case v2 => k_is); (case v3 => k_is); (case v4 => k_is); (case z0 => k_is); (case z1 => k_is); (case z2 => k_is)
    (case z3 => k_is); (case z4 => k_is); (case z5 => k_is); (case z6 => k_is); (case z7 => k_is); (case z8 => k_is)
    (case z9 => k_is); (case z10 => k_is); (case z11 => k_is); (case z12 => k_is); (case zs => k_is)
