import PyProof.Rows.All
import Wide.All
import OpenK.AllK
import Wide.FinOn
import PyProof.StrReplace2
import KE.GoesEnum
import HandS.ForMost
import HandS.IsInst
import HandS.StrMore
import HandS.Star
import HandS.Defaults
import HandS.MakeKw
import HandS.MakeKwOnly
import HandS.Wide
import HandS.Walk
import HandS.SetTxt0
import HandS.ReplaceList
import HandS.Flow
import HandS.Codes
import HandS.SlotsOwn
import HandS.TryOnly
import HandS.ExcOwn
import HandS.WordsExc
import PyProof.ListStr
import HandS.ExcIs
import HandS.ExcInit
import HandS.ClsMeth
import HandS.ReplaceLit
import HandS.ReplaceDef
import HandS.RaiseMore
import HandS.TupAny
import HandS.SetKeys
import HandS.ExcField
import KE.KExcIs
import PyProof.NeKinds
import HandS.Strs
import PyProof.InstNe
import HandS.ExcValue
import PySem.Challenge.RW_plaindoors_k00_errors
set_option Elab.async false
set_option linter.all false
set_option maxRecDepth 100000
namespace Pd
open PySem PySem.Spec PyProof.Rows L2
/-! powers of great ints, repeated texts -/
def CPowW (i j : Int) : Prop := 0 ≤ j ∧ (Builtin.Int.intBits i : Int) * j ≤ 2 ^ 27
section
variable {X : Cx}
theorem op_powW : OpR X (binaryOp .Pow) (rI CPowW fun i j => .int (i ^ j.toNat)) :=
  opI fun _ _ _ _ _ _ _ hc q => pow_int hc.1 hc.2 q
theorem op_mulS : OpR X (binaryOp .Mult) (fun x y H Q => ∃ a n, x = .str a ∧ y = .int n ∧ PySem.MulOk a n ∧ Q (.str (Txt.mul a n)) H) := by
  intro pins s σ H x y v u Q I rx ry h
  obtain ⟨a, n, rfl, rfl, ok, q⟩ := h
  obtain ⟨t, rfl⟩ := rx
  obtain ⟨t', rfl⟩ := ry
  exact PySem.SB.mul ok fun t2 k => ⟨.str _, H, I.tok k, ⟨t2, rfl⟩, q⟩
end
theorem bits_lt {i : Int} {a : Nat} (h : i.natAbs < 2 ^ a) (h0 : 0 < a) : Builtin.Int.intBits i ≤ a := by
  have x := PySem.Flt.log2_lt_of h0 h
  unfold Builtin.Int.intBits
  split <;> omega
theorem powW_ok {i j : Int} {a : Nat} (h : i.natAbs < 2 ^ a) (h0 : 0 < a) (hj : 0 ≤ j) (hj2 : j ≤ 16) (ha : a ≤ 100000) : CPowW i j := by
  refine ⟨hj, ?_⟩
  have e := bits_lt h h0
  have e2 : (Builtin.Int.intBits i : Int) ≤ 100000 := by omega
  have e3 : (0:Int) ≤ (Builtin.Int.intBits i : Int) := by omega
  have : (Builtin.Int.intBits i : Int) * j ≤ 100000 * 16 := Int.mul_le_mul e2 hj2 hj (by omega)
  omega
end Pd

namespace Pd
open PySem PySem.Spec PyProof.Rows L2
/-! ### a set made of a text whose signs are all plain and distinct -/
abbrev freshSet (led : Bool) : Obj := { cls := .type "set", dict := none, data := .set #[] 0 (.fresh 0 0 led) }
theorem sub_ss : isSubtype (.type "str") (.type "set") = pure false := by rw [isSubtype_type]; kernel_rfl
theorem sub_sf : isSubtype (.type "str") (.type "frozenset") = pure false := by rw [isSubtype_type]; kernel_rfl
theorem run_txok {P : Program} {w : World} : ∀ (cs : List Nat) (tk : Tok) (D : Froz.SD) (l : List Str), Froz.TxOk P w D l →
    ∃ m, m.length = cs.length + l.length ∧ Froz.TxOk P w (Froz.runD w cs tk D) m
  | [], _, _, l, F => ⟨l, (Nat.zero_add _).symm, F⟩
  | c :: r, tk, D, l, F => by
    obtain ⟨m, hm, G⟩ := run_txok r (tk + 2) _ _ (Froz.add_ok (k := Froz.sing c) tk F)
    exact ⟨m, by rw [hm, List.length_cons, List.length_cons]; omega, G⟩
section
variable {prog : Program} {w : World} {A : Around} {E : Value → Shared → Prop} {s : Shared}
/-- what such a set is, as far as its length goes -/
def TxtSet (h : Heap) (a : Addr) (n : Nat) : Prop :=
  ∃ D : Froz.SD, h.get? a = some (Froz.sObj "set" D) ∧ D.2.2.fits D.1.size = true ∧ D.1.size = n
set_option maxHeartbeats 6400000 in
theorem set_of_text {x : Str} {t : Tok} {Q : Value → Shared → Prop} (hh : A.handled = none) (ha : x.cps.all (· < 128) = true)
    (hd : x.cps.toList.Nodup) (hb : x.cps.toList.length < scanBound)
    (hq : ∀ (g : Heap) (tk : Nat), TxtSet g s.heap.objs.size x.cps.toList.length →
      (∀ b o, s.heap.get? b = some o → g.get? b = some o) → Q (.ref s.heap.objs.size) { s with heap := g, toks := tk }) :
    wpAny (model prog w) A (call (.type "set") [.str x t]) Q E s := by
  obtain ⟨c, tl, hmro⟩ := PySem.F.called_set.mro
  have made := PySem.F.called_set.made
  have subs := PySem.F.called_set.sub
  refine wpAny_call (codeAny_of_tree ?_)
  show wpAny _ _ (callAny (.type "set") _) _ _ _
  refine wpAny_pure ⟨Code.quiet_builtin _ (by decide +kernel), codeAny_builtin PySem.F.entry_type_call ?_⟩
  rw [Around.under_plain (weight_type_call_type "set" [.str x t] []) rfl]
  have nt := PySem.F.called_set.notType
  have cc := PySem.F.called_set.canCreate
  have tc := PySem.F.typeCall_set_1 (.str x t)
  repeat (any_goals (first | assumption | wp_step))
  refine codeAny_mono (code_set_new_1 (.str x t) (E := E) (Q₁ := fun ob s1 => ∃ led, ob = .ref s.heap.objs.size ∧ s1 = { s with heap := s.heap.push (freshSet led) }) fun led => ⟨led, rfl, rfl⟩) fun r s1 hr => ?_
  cases r with
  | error e => exact hr
  | ok fl =>
    cases fl with
    | next => exact hr.elim
    | brk => exact hr.elim
    | cont => exact hr.elim
    | ret ob =>
      obtain ⟨led, rfl, rfl⟩ := hr
      have gS : (s.heap.push (freshSet led)).get? s.heap.objs.size = some (freshSet led) := Heap.get?_push_size _ rfl
      have tS : Shared.TypeIs { s with heap := s.heap.push (freshSet led) } (.ref s.heap.objs.size) "set" := ⟨_, gS, rfl⟩
      have li := PySem.F.called_set.init.lookup
      have bi := PySem.F.called_set.init.bind (.ref s.heap.objs.size)
      repeat (any_goals (first | assumption | wp_step))
      refine codeAny_mono (codeAny_call_builtin (R := wants (fun r s2 => r = .none ∧ ∃ g tk, s2 = { s with heap := g, toks := tk } ∧
          TxtSet g s.heap.objs.size x.cps.toList.length ∧ (∀ b o, s.heap.get? b = some o → g.get? b = some o)) E)
          PySem.F.called_set.init.plain PySem.F.entry_set_init (check_set_init_1 tS ?_)) fun r2 s2 h2 => ?_
      · have s1 := sub_ss
        have s3 := sub_sf
        have tT : Shared.TypeIs { s with heap := s.heap.push (freshSet led) } (.str x t) "str" := typeIs_str _ _ _
        have ne : (Value.type "str" == Value.type "dict") = false := by decide
        unfold Builtin.«set.__init__» noKeywords Builtin.Frozenset.updateFrom
        generalize hPI : pyIter = PI
        wp_walk
        subst hPI
        refine wpAny_pyIter_ascii ha ?_
        refine wpAny_bind (wpAny_runValue ?_)
        have e1 : (s.heap.push (freshSet led)).objs.size = s.heap.objs.size + 1 := Heap.size_push _ _
        have hne : s.heap.objs.size ≠ (s.heap.push (freshSet led)).objs.size := by omega
        have g1 : ∀ o2, ((s.heap.push (freshSet led)).push o2).get? s.heap.objs.size = some (Froz.sObj "set" (#[], 0, .fresh 0 0 led)) := fun o2 => Heap.get?_push_of_some _ gS
        have g2 : ((s.heap.push (freshSet led)).push (Froz.itObj x t 0)).get? (s.heap.push (freshSet led)).objs.size = some (Froz.itObj x t 0) := Heap.get?_push_size _ rfl
        obtain ⟨m, hm, TX⟩ := run_txok (P := prog) (w := w) x.cps.toList s.toks _ _ (Froz.TxOk.nil (ep := 0) (t := .fresh 0 0 led) rfl)
        refine Froz.code_update (P := prog) (w := w) (l := []) (D := (#[], 0, .fresh 0 0 led)) hne (by exact hh) x.cps.toList 0 _ rfl (g1 _) g2 (Froz.TxOk.nil rfl) (fun _ _ => List.not_mem_nil) hd (by simpa using hb) ?_
        refine wpAny_pure (wpAny_pure ⟨rfl, _, _, rfl, ⟨Froz.runD w x.cps.toList s.toks (#[], 0, .fresh 0 0 led), ?_, TX.fit, ?_⟩, fun b o q => ?_⟩)
        · refine Heap.get?_push_of_some _ (Heap.get?_push_of_some _ ?_)
          unfold Froz.two
          exact PySem.Heap.get?_update_of_ne _ hne.symm (Froz.get_upd _ (g1 _) rfl)
        · rw [TX.sz, hm]; rfl
        · have hb1 : b < s.heap.objs.size := Heap.lt_size q
          have b2 : (s.heap.push (freshSet led)).objs.size ≠ b := by rw [e1]; exact Nat.ne_of_gt (Nat.lt_succ_of_lt hb1)
          have b3 : s.heap.objs.size ≠ b := Nat.ne_of_gt hb1
          refine Heap.get?_push_of_some _ (Heap.get?_push_of_some _ ?_)
          unfold Froz.two
          exact PySem.Heap.get?_update_of_ne _ b2 (PySem.Heap.get?_update_of_ne _ b3 (Heap.get?_push_of_some _ (Heap.get?_push_of_some _ q)))
      · cases r2 with
        | error e => exact h2
        | ok f2 =>
          cases f2 with
          | next => exact h2.elim
          | brk => exact h2.elim
          | cont => exact h2.elim
          | ret r =>
            obtain ⟨rfl, g, tk, rfl, hS, hk⟩ := h2
            repeat (any_goals (first | assumption | wp_step))
            exact hq _ _ hS hk
end
/-- len(set(e)), e a text of plain and distinct signs -/
def tLenSetS (ta : TE) : TE := fun σ H Q => ta σ H fun v H1 => ∃ x : Str, v = .str x ∧ x.cps.all (· < 128) = true ∧ x.cps.toList.Nodup ∧ x.cps.toList.length ≤ 1000 ∧ Q (.int (x.cps.toList.length : Nat)) H1
theorem pe_lenSetS {X : Cx} {a : Expr} {ta : TE} {p p2 q pos : Pos} (hc : X.calm = true) (hg : Gl X "len") (hm : X.mg "len" = none) (hg2 : Gl X "set") (hm2 : X.mg "set" = none) (ha : PE X a ta)
    (na : starEach [a] X.env = (false, eval a X.env) :: starEach [] X.env := by rfl) : PE X (.Call (.Name "len" p) [.Call (.Name "set" p2) [a] [] q] [] pos) (tLenSetS ta) := by
  constructor
  intro pins s σ H Q I h
  apply Call_ (ld_blt I hg hm boot_len _)
  refine PyProof.Rows.callWith_builtin1 (PyProof.Rows.args_cons (Call_ (ld_blt I hg2 hm2 boot_set ?_)) rfl) rfl rfl
  refine PyProof.Rows.callWith_type1 (PyProof.Rows.args_cons (thn (ha.run pins s σ H _ I h) ?_) na) na rfl
  rintro v s1 ⟨y, H1, I1, r1, x, rfl, hx, hn, hl, q1⟩
  obtain ⟨t, rfl⟩ := r1
  refine PyProof.Rows.args_nil (set_of_text (I1.ok.hd hc) hx hn (Nat.lt_of_le_of_lt hl (by unfold scanBound; omega)) fun g tk hS hk => PyProof.Rows.args_nil ?_)
  obtain ⟨D, h1, h2, h3⟩ := hS
  have I2 : Inv X pins σ H1 { s1 with heap := g, toks := tk } := I1.kept hk
  exact call_len_set h1 ⟨rfl, rfl, rfl⟩ rfl h2 (by omega) ⟨.int _, H1, I2.tok _, ⟨_, by rw [h3]⟩, q1⟩
end Pd

namespace Pd
open PySem PySem.Spec PyProof.Rows L2
/-! ### no reader has booked a token -/
theorem unbooked {X : Cx} {pins : List (Addr × Obj)} {σ : L2.St} {H : Hp} {s : Shared} (b : NoneBooked X.base) (I : Inv X pins σ H s) : NoneBooked s.heap :=
  let ⟨mc, h1, h2⟩ := b
  ⟨mc, h1.keeps I.bk, h2⟩
theorem tkE {α : Type} {M : Model} {A : Around} {t : Sem α} {Q : α → Shared → Prop} {E : Value → Shared → Prop} {s : Shared} {n : Nat} (hn : n ≤ s.toks) (h : wpAny M A t Q E s) :
    wpAny M A t (fun a s' => n ≤ s'.toks ∧ Q a s') E s := wpAny_mono (PySem.wpAny_toks_of hn h) (fun _ _ q => q) fun _ _ q => q.2
/-! ### texts whose token is new -/
def Frsh (n m : Nat) (u : Value) : Prop := ∃ x t, u = .str x t ∧ n ≤ t ∧ t < m
structure PEF (X : Cx) (e : Expr) (t : TE) : Prop where
  run : ∀ (pins : List (Addr × Obj)) (s : Shared) (σ : L2.St) (H : Hp) (Q : VK), Inv X pins σ H s → t σ H Q →
    wpAny (model X.prog X.w) X.A (eval e X.env) (fun u s' => EP X pins σ Q u s' ∧ s.toks ≤ s'.toks ∧ Frsh (s.toks + 1) s'.toks u) X.xe s
theorem PEF.pe {X : Cx} {e : Expr} {t : TE} (h : PEF X e t) : PE X e t := ⟨fun pins s σ H Q I q => thn (h.run pins s σ H Q I q) fun _ _ z => z.1⟩
/-- a written text at a reckoned place -/
def tItemC (z : Str) (tb : TE) : TE := fun σ H Q => tb σ H fun y H2 => ∃ (i : Int) (c : Nat), y = .int i ∧ 0 ≤ i ∧ i < z.length ∧ z.length ≤ 1000 ∧ z.cps[i.toNat]? = some c ∧ Q (.str ⟨#[c]⟩) H2
theorem pef_item {X : Cx} {z : Str} {j : Nat} {cp pos : Pos} {b : Expr} {tb : TE} (hb : PE X b tb) (hs : PlainIxT b) : PEF X (.Subscript (.Constant (.str z) j cp) b pos) (tItemC z tb) := by
  constructor
  intro pins s σ H Q I h
  refine Subscript_ (Calls.Constant_str ?_)
  have I1 : Inv X pins σ H { s with toks := s.toks + 1 } := I.tok _
  refine thn (tkE (n := s.toks + 1) (Nat.le_refl _) (hb.run pins _ σ H _ I1 h)) ?_
  rintro u s2 ⟨ht, y, H2, I2, ry, i, c, rfl, h0, h1, hz, hc, q⟩
  obtain ⟨t, rfl⟩ := ry
  have e : seqIndex? i z.length = some i.toNat := PySem.StrLaws.seqIndex_nonneg h0 h1
  refine tail_any (typeIs_str s2 z s.toks) slot_str_getitem.lookup (getItem_str (c := c) ?_ (by rw [e]; exact hc) ⟨⟨.str ⟨#[c]⟩, H2, I2.tok _, ⟨_, rfl⟩, q⟩, ?_, _, _, rfl, ht, ?_⟩) (hs _ _)
  · rw [decide_eq_false (by omega), decide_eq_false (by omega)]; rfl
  · show s.toks ≤ s2.toks + 1; omega
  · show s2.toks < s2.toks + 1; omega
/-- a name of the frame, its value raw -/
structure Holds (X : Cx) (s : Shared) (x : Str) (u : Value) : Prop where
  kd : X.env.kindOf x = some .local
  at_ : ∃ m, s.heap.Ns X.env.locals m ∧ m x = some u
theorem Holds.tok {X : Cx} {s : Shared} {x : Str} {u : Value} (h : Holds X s x u) (k : Nat) : Holds X { s with toks := k } x u := ⟨h.kd, h.at_⟩
theorem Holds.load {X : Cx} {pins : List (Addr × Obj)} {σ : L2.St} {H : Hp} {s : Shared} {x : Str} {u : Value} {pos : Pos} {Q E : Value → Shared → Prop} (h : Holds X s x u) (I : Inv X pins σ H s) (q : Q u s)
    (hd : (x == ("__debug__" : Str)) = false := by decide) : wpAny (model X.prog X.w) X.A (eval (.Name x pos) X.env) Q E s := by
  obtain ⟨m, hn, hm⟩ := h.at_
  exact wpAny_Name (wpAny_loadName_local I.ok.kind h.kd hn hm q) hd
/-- a local name is stored, and its value is known -/
theorem store_raw {X : Cx} {pins : List (Addr × Obj)} {σ : L2.St} {H : Hp} {s : Shared} {M : Model} {A : Around} {E : Value → Shared → Prop} {i : Nat} {x : Str} {v : V} {u : Value} {Q : Unit → Shared → Prop}
    (I : Inv X pins σ H s) (hN : X.N.Nodup) (hi : X.N[i]? = some x) (hx : X.env.scope.names.lookup x = some .local) (r : RelV v u)
    (h : ∀ s', Inv X pins (σ.set i (some v)) H s' → Holds X s' x u → (∀ y w, y ≠ x → Holds X s y w → Holds X s' y w) → s.toks ≤ s'.toks → Q () s') : wpAny M A (storeName X.env x u) Q E s := by
  obtain ⟨m, hn, hl⟩ := id I.loc
  have hcls : (X.env.scope.kind == .class || (X.env.scope.kind == .module && X.env.locals != X.env.globals)) = false := by rw [I.ok.kind]; rfl
  have hk : X.env.kindOf x = some .local := hx
  obtain ⟨oL, _, _, hoL, _⟩ := id hn
  have hiσ : i < σ.length := by rw [I.len]; exact (List.getElem?_eq_some_iff.mp hi).1
  refine wpAny_storeName_local hk hn (fun g hg sb => ?_) hcls
  have oldL : ∀ {b o}, X.s_0.heap.get? b = some o → b ≠ X.env.locals := fun e => Nat.ne_of_lt (Nat.lt_of_lt_of_le (Heap.lt_size e) I.ok.above)
  have hok : HOk X.prog X.w H g := fun b ob e => by
    refine (I.hok b ob e).stay (fun c w' hc q => (sb.2 c ?_).trans q) (fun _ q => q) fun _ _ q => q
    rintro rfl
    rcases hc with rfl | hc
    · rw [I.free] at e; cases e
    · rw [I.free] at hc; cases hc
  have I' : Inv X pins (σ.set i (some v)) H { s with heap := g, toks := s.toks + 1 } := by
    refine ⟨I.ok, I.os, I.bare, ⟨?_, ?_, I.base.free, ?_, I.base.tups, I.base.frzs, I.base.tbls⟩, ⟨_, hg, ?_⟩, ?_, I.free, I.freeC, ?_, hok, by simpa using I.len⟩
    · intro b o e n hb hx'
      exact (sb.2 b (oldL e)).trans (I.base.keep b o e n hb hx')
    · intro b o e n hb hx'
      obtain ⟨sl, e1⟩ := I.base.slot b o e n hb hx'
      exact ⟨sl, (sb.2 b (oldL e)).trans e1⟩
    · intro b o e hx'
      obtain ⟨o', e1⟩ := I.base.there b o e hx'
      exact ⟨o', (sb.2 b (oldL e)).trans e1⟩
    · intro j y v' e1 e2 e3
      by_cases hj : j = i
      · subst hj
        rw [hi] at e1; cases e1
        rw [List.getElem?_set_self hiσ] at e2
        cases e2
        exact ⟨u, r, .inl ⟨hk, by simp⟩⟩
      · rw [List.getElem?_set_ne (Ne.symm hj)] at e2
        obtain ⟨u', r', q⟩ := hl j y v' e1 e2 e3
        refine ⟨u', r', ?_⟩
        rcases q with ⟨k, e⟩ | ⟨k, c, e, z⟩
        · refine .inl ⟨k, ?_⟩
          have nyx : y ≠ x := fun e' => hj (nodup_ix hN e1 (e' ▸ hi))
          simp [nyx, e]
        · exact .inr ⟨k, c, e, z.sameBut sb (I.cne y c e)⟩
    · intro y c e
      obtain ⟨w', z⟩ := I.cell y c e
      exact ⟨w', z.sameBut sb (I.cne y c e)⟩
    · intro p hp
      obtain ⟨e, n, ne, nf, d⟩ := I.pin p hp
      exact ⟨(sb.2 p.1 ne).trans e, n, ne, nf, d⟩
  refine h _ I' ⟨hk, _, hg, by simp⟩ (fun y w ny hy => ?_) (Nat.le_succ _)
  obtain ⟨m', hn', hm'⟩ := hy.at_
  obtain ⟨od, es, ep, h1, h2, h3, h4⟩ := id hn
  obtain ⟨od', es', ep', h1', h2', h3', h4'⟩ := id hn'
  rw [h1] at h1'; cases h1'
  rw [h2] at h2'; cases h2'
  refine ⟨hy.kd, _, hg, ?_⟩
  have : m y = some w := by rw [← hm', ← h4 y, ← h4' y]
  simp [ny, this]
/-! ### lists of texts of unlike tokens -/
/-- the texts cs, their tokens all in n .. m and unlike -/
inductive TkL : Nat → Nat → List Str → List Value → Prop where
  | nil {n m : Nat} (h : n ≤ m) : TkL n m [] []
  | cons {n k m : Nat} {c : Str} {t : Nat} {cs : List Str} {us : List Value} (h1 : n ≤ t) (h2 : t < k) (r : TkL k m cs us) : TkL n m (c :: cs) (.str c t :: us)
theorem TkL.le : ∀ {n m : Nat} {cs : List Str} {us : List Value}, TkL n m cs us → n ≤ m
  | _, _, _, _, .nil h => h
  | _, _, _, _, .cons h1 h2 r => Nat.le_trans (Nat.le_of_lt (Nat.lt_of_le_of_lt h1 h2)) r.le
theorem TkL.low {n n' m : Nat} {cs : List Str} {us : List Value} (h : TkL n m cs us) (l : n' ≤ n) : TkL n' m cs us := by
  cases h with
  | nil h => exact .nil (Nat.le_trans l h)
  | cons h1 h2 r => exact .cons (Nat.le_trans l h1) h2 r
theorem TkL.app : ∀ {n m p : Nat} {cs ds : List Str} {us vs : List Value}, TkL n m cs us → TkL m p ds vs → TkL n p (cs ++ ds) (us ++ vs)
  | _, _, _, _, _, _, _, .nil h, r => r.low h
  | _, _, _, _, _, _, _, .cons h1 h2 q, r => .cons h1 h2 (q.app r)
theorem TkL.vals : ∀ {n m : Nat} {cs : List Str} {us : List Value}, TkL n m cs us → Vals (cs.map V.str) us
  | _, _, _, _, .nil _ => .nil
  | _, _, _, _, .cons _ _ r => .cons ⟨_, rfl⟩ r.vals
/-- what stands at a place -/
theorem TkL.get : ∀ {n m : Nat} {cs : List Str} {us : List Value} {i : Nat} {c : Str}, TkL n m cs us → cs[i]? = some c → ∃ t, us[i]? = some (.str c t) ∧ n ≤ t ∧ t < m
  | _, _, _, _, _, _, .nil _, e => by simp at e
  | _, _, _, _, 0, _, .cons h1 h2 r, e => by
    simp at e; subst e
    exact ⟨_, by simp, h1, Nat.lt_of_lt_of_le h2 r.le⟩
  | _, _, _, _, i + 1, _, .cons h1 h2 r, e => by
    obtain ⟨t, e1, e2, e3⟩ := r.get (i := i) (by simpa using e)
    exact ⟨t, by simpa using e1, Nat.le_trans (Nat.le_of_lt (Nat.lt_of_le_of_lt h1 h2)) e2, e3⟩
theorem TkL.get_ge : ∀ {n m : Nat} {cs : List Str} {us : List Value} {i : Nat} {c : Str} {t : Nat}, TkL n m cs us → us[i]? = some (.str c t) → n ≤ t
  | _, _, _, _, _, _, _, .nil _, e => by simp at e
  | _, _, _, _, 0, _, _, .cons h1 h2 r, e => by
    simp at e
    obtain ⟨_, rfl⟩ := e
    exact h1
  | _, _, _, _, i + 1, _, _, .cons h1 h2 r, e => Nat.le_trans (Nat.le_of_lt (Nat.lt_of_le_of_lt h1 h2)) (TkL.get_ge r (i := i) (by simpa using e))
theorem TkL.inj : ∀ {n m : Nat} {cs : List Str} {us : List Value} {i j : Nat} {c d : Str} {t : Nat}, TkL n m cs us → us[i]? = some (.str c t) → us[j]? = some (.str d t) → c = d
  | _, _, _, _, _, _, _, _, _, .nil _, e, _ => by simp at e
  | _, _, _, _, 0, 0, _, _, _, .cons _ _ _, e, f => by
    simp at e f
    exact e.1.symm.trans f.1
  | _, _, _, _, 0, j + 1, _, _, _, .cons (k := k) h1 h2 r, e, f => by
    simp at e f
    obtain ⟨_, rfl⟩ := e
    exact absurd (Nat.lt_of_lt_of_le h2 (r.get_ge f)) (Nat.lt_irrefl _)
  | _, _, _, _, i + 1, 0, _, _, _, .cons h1 h2 r, e, f => by
    simp at e f
    obtain ⟨_, rfl⟩ := f
    exact absurd (Nat.lt_of_lt_of_le h2 (r.get_ge e)) (Nat.lt_irrefl _)
  | _, _, _, _, i + 1, j + 1, _, _, _, .cons h1 h2 r, e, f => r.inj (by simpa using e) (by simpa using f)
/-- a list of texts whose tokens are known to be unlike, and none the first -/
def TxtsAt (H : Hp) (a : Addr) (cs : List Str) : Prop :=
  ∃ (its : List Value) (n m k : Nat), H a = some (.frz { cls := .type "list", data := .seq its.toArray n } (.lst (cs.map V.str))) ∧ TkL m k cs its ∧ 1 ≤ m
theorem TxtsAt.seq {K : PySem.W.Frag} {H : Hp} {a : Addr} {cs : List Str} (h : TxtsAt H a cs) : SqL K H a (cs.map V.str) := by
  obtain ⟨its, n, m, k, e, _⟩ := h
  exact .inl (.inr ⟨_, e⟩)
theorem TxtsAt.same {H H' : Hp} {a : Addr} {cs : List Str} (h : TxtsAt H a cs) (e : H' a = H a) : TxtsAt H' a cs := by
  obtain ⟨its, n, m, k, e1, r⟩ := h
  exact ⟨its, n, m, k, e.trans e1, r⟩
/-! ### a step that swaps: its two texts' tokens are good for replace -/
def SwapAt (H : Hp) (p : Addr) (a b : Str) : Prop :=
  ∃ (n : Nat) (t0 t u : Tok), H p = some (.frz { cls := .type "tuple", data := .seq #[.str "swap" t0, .str a t, .str b u] n } (.tup [.str "swap", .str a, .str b])) ∧ t ≠ 0 ∧ u ≠ 0 ∧ (t = u → a = b)
theorem SwapAt.seq {K : PySem.W.Frag} {H : Hp} {p : Addr} {a b : Str} (h : SwapAt H p a b) : SqT K H p [.str "swap", .str a, .str b] := by
  obtain ⟨n, t0, t, u, e, _⟩ := h
  exact .inl (.inr ⟨_, e⟩)
theorem SwapAt.same {H H' : Hp} {p : Addr} {a b : Str} (h : SwapAt H p a b) (e : ∀ o u, H p = some (.frz o u) → H' p = some (.frz o u)) : SwapAt H' p a b := by
  obtain ⟨n, t0, t, u, e1, r⟩ := h
  exact ⟨n, t0, t, u, e _ _ e1, r⟩
/-- replace, whatever the tokens are -/
theorem replace_all {prog : Program} {w : World} {A : Around} {E : Value → Shared → Prop} {s : Shared} {x y z : Str} {t u v : Tok} {Q : Value → Shared → Prop} (hnb : NoneBooked s.heap) (hu : u ≠ 0) (hv : v ≠ 0) (huv : u = v → y = z)
    (hb : x.length + (x.length + 1) * z.length ≤ 16777216) (hq : ∀ t' k, Q (.str (Txt.replace x y z) t') { s with toks := k }) :
    wpAny (model prog w) A (call (.builtin "str.replace") [.str x t, .str y u, .str z v]) Q E s := by
  by_cases e : u = v
  · obtain rfl := huv e
    subst e
    have same : isSame (.str y u) (.str y u) = pure true := by
      show (if (u == 0 || u == 0) = true then _ else if (u == u) = true then pure true else _ : Sem Bool) = _
      rw [beq_eq_false_iff_ne.mpr hu, beq_self_eq_true u]
      rfl
    have g : Gives (Builtin.«str.replace» ⟨[.str x t, .str y u, .str y u], []⟩) (.val (.str x t)) := by
      show Gives (if ((Builtin.Str.occurrences x y 0 x.length (x.length + 1)).isEmpty || (y.length == 0 && y.length == 0)) = true then (do rule "str.replace.nothing"; ret (.str x t)) else
          (do let same ← isSame (.str y u) (.str y u)
              if same = true then (do rule "str.replace.old-is-new"; ret (.str x t)) else
              if Builtin.Str.tooLong (x.length + (Builtin.Str.occurrences x y 0 x.length (x.length + 1)).length * y.length) = true then unsupported "str.replace:memory" else
              retStr (Builtin.Str.glued y (Builtin.Str.partsBetween x (Builtin.Str.occurrences x y 0 x.length (x.length + 1)) y.length)))) _
      rw [same]
      cases ((Builtin.Str.occurrences x y 0 x.length (x.length + 1)).isEmpty || (y.length == 0 && y.length == 0))
      · exact .rule (.of_eq rfl)
      · exact .rule (.of_eq rfl)
    refine call_gives PySem.F.slot_str_replace (typeIs_str _ _ _) PySem.F.entry_str_replace (PySem.F.args_str_replace_3 _ _ _) g ?_
    have q := hq t s.toks
    rw [Txt.replace_self] at q
    exact q
  · exact PySem.SC.replaceA hu hv e hb hq hnb
end Pd

namespace Pd
open PySem PySem.Spec PyProof.Rows L2
/-! ### enumerate of a tuple -/
set_option maxHeartbeats 1000000 in
theorem meets_enum1 {v : Value} {o : Obj} {B : Heap → Prop} (b : Begins v o B) :
    Meets (Builtin.«enumerate.__new__» ⟨[.type "enumerate", v], []⟩) (fun _ R s => B s.heap ∧
      R (.ok (.ret (.ref (s.heap.push o).objs.size))) { s with heap := (s.heap.push o).push { cls := .type "enumerate", data := .fields #[.none, .bool false, .ref s.heap.objs.size, rawInt 0, .none, .none] } }) :=
  .of_wp fun prog w A R s h => by
    obtain ⟨hp, g, d, tk, os⟩ := s
    obtain ⟨h1, h2⟩ := h
    have hsub := sub_enumerate
    have it1 : ∀ {A' : Around} {E : Value → Shared → Prop} {Q : Value → Shared → Prop}, Q (.ref hp.objs.size) ⟨hp.push o, g, d, tk, os⟩ → wpAny (model prog w) A' (pyIter v) Q E ⟨hp, g, d, tk, os⟩ :=
      fun q => b.iter prog w _ _ ⟨hp, g, d, tk, os⟩ _ h1 q
    wp_walk using it1
    refine wpAny_stack_any fun st => wpAny_pure ?_
    split
    · rename_i c _ _ _ _ _
      cases (c == Value.type "enumerate")
      · wp_walk using it1
        exact ⟨_, rfl, h2⟩
      · wp_walk using it1
        exact ⟨_, rfl, h2⟩
    · wp_walk using it1
      exact ⟨_, rfl, h2⟩
theorem call_enum1 {prog : Program} {w : World} {A : Around} {E : Value → Shared → Prop} {s : Shared} {v : Value} {o : Obj} {B : Heap → Prop} {Q : Value → Shared → Prop} (b : Begins v o B) (h1 : B s.heap)
    (h : ∀ g, IsEnum g (s.heap.objs.size + 1) s.heap.objs.size 0 .none → g.get? s.heap.objs.size = some o →
      (∀ b o, s.heap.get? b = some o → g.get? b = some o) → Q (.ref (s.heap.objs.size + 1)) { s with heap := g }) :
    wpAny (model prog w) A (call (.type "enumerate") [v]) Q E s := by
  refine callType_new F.called_enumerate (by decide) (F.typeCall_enumerate_1 _) (F.newCall_enumerate_1 _) (fun obj => F.args_object_init_2 obj _) F.entry_enumerate_new (meets_enum1 b) ⟨h1, ?_⟩
  have z : (s.heap.push o).objs.size = s.heap.objs.size + 1 := Heap.size_push ..
  show _ ∧ _
  rw [z]
  have he := Heap.get?_push_size (s.heap.push o) (o := { cls := .type "enumerate", data := .fields #[.none, .bool false, .ref s.heap.objs.size, rawInt 0, .none, .none] }) rfl
  rw [z] at he
  exact ⟨⟨_, he, rfl⟩, h _ he (Heap.get?_push_of_some _ (Heap.get?_push_size _ b.free)) fun b o x => Heap.get?_push_of_some _ (Heap.get?_push_of_some _ x)⟩
def ItE (K : PySem.W.Frag) (a : Addr) : It :=
  ⟨fun i H => ∃ (xs : List V) (x : V), SqT K H a xs ∧ xs[i]? = some x, fun i H v H' => ∃ T x, v = .ref T ∧ H T = none ∧ H' = upd H T (.tup [.int (i : Nat), x]) ∧ ∀ xs, SqT K H a xs → xs[i]? = some x, fun i H => ∃ xs : List V, SqT K H a xs ∧ xs.length = i⟩
theorem turn_enumT {P : Program} {w : World} {K : PySem.W.Frag} {elts : List Expr} {kk : Nat} {tpos : Pos} (a e it : Addr) :
    Turn P w K (.Tuple elts kk tpos) (ItE K a) [e, it] e (fun i h => (∃ old, IsEnum h e it ((i : Nat) : Int) old) ∧ h.IsTupleIter it a i ∧ e ≠ it ∧ a ≠ it ∧ e ≠ a) where
  mem := by simp
  obj := fun i h st b hb => by
    obtain ⟨⟨old, he⟩, ⟨o, ho, hc, hd⟩, _⟩ := st
    have z : b = e ∨ b = it := by simpa using hb
    rcases z with rfl | rfl
    · exact ⟨_, he, fun v q => nomatch q⟩
    · exact ⟨o, ho, fun v q => by rw [hd] at q; cases q⟩
  keep := fun i h h' st k => let ⟨⟨old, he⟩, hi, hne⟩ := st; ⟨⟨old, k e (by simp) _ he⟩, hi.at fun o q => k it (by simp) o q, hne⟩
  item := by
    intro X hP hw hK hc i pins s σ H E I hf st hg
    subst hP hw hK
    obtain ⟨⟨old, he⟩, hit, hne, hai, hea⟩ := st
    obtain ⟨xs, x, hq, hx⟩ := hg
    obtain ⟨its, rv, p, hz⟩ := I.tuple hq
    obtain ⟨u, hu, ru⟩ := rv.get hx
    have hel : e < s.heap.objs.size := Heap.lt_size he
    have hil : it < s.heap.objs.size := by obtain ⟨_, q, _⟩ := hit; exact Heap.lt_size q
    have lt : i < its.toArray.size := by
      have := (List.getElem?_eq_some_iff.mp hu).1
      simpa using this
    refine wpAny_pyNext_enum_itemD (Draws.tuple (prog := X.prog) (w := X.w) (A := X.A.in1) (by exact I.ok.hd hc) it a hai its.toArray) he ⟨hit, p⟩ lt hne (by simp [hne, hea]) fun y g tk hy ho st' hT hsz hk => ?_
    have ey : y = u := by
      have : its[i]? = some y := by simpa using hy
      rw [hu] at this
      exact (Option.some.inj this).symm
    subst ey
    refine ⟨_, rfl, wpAny_letOwnedTupleGo_enum (s := { s with heap := g, toks := tk + 1 }) ho fun g2 he' sb => ?_⟩
    have hT2 : g2.get? s.heap.objs.size = some { cls := .type "tuple", data := .seq #[.int i tk, y] } := (sb.2 _ (Nat.ne_of_gt hel)).trans hT
    have new : ObjOk X.prog X.w (upd H s.heap.objs.size (.tup [.int (i : Nat), x])) g2 s.heap.objs.size (.tup [.int (i : Nat), x]) :=
      ⟨by show 2 ≤ sizeLine; decide, [.int i tk, y], .cons ⟨_, rfl⟩ (.cons ru .nil), ⟨_, hT2, rfl, _, rfl⟩⟩
    have I1 : Inv X pins σ (upd H s.heap.objs.size (.tup [.int (i : Nat), x])) { s with heap := g2, toks := tk + 1 } :=
      I.turnedNew (ch := [e, it]) (fun b ob hb q => (sb.2 b (fun z => hb (by simp [z]))).trans (hk b ob (fun z => hb (by simp [z])) (fun z => hb (by simp [z])) q)) hf (Nat.le_refl _) new
    refine ⟨.ref s.heap.objs.size, _, I1, rfl, ⟨_, x, rfl, I.hok.fresh (Nat.le_refl _), rfl, fun ys hy => by rw [I.tuple_inj hy hq]; exact hx⟩, ⟨⟨y, ?_⟩, st'.1.at fun o q => (sb.2 it (Ne.symm hne)).trans q, hne, hai, hea⟩, fun b hb => ?_⟩
    · have e1 : ((i + 1 : Nat) : Int) = (i : Int) + 1 := by omega
      rw [e1]; exact he'
    · have hb' : b < s.heap.objs.size := by
        have z : b = e ∨ b = it := by simpa using hb
        rcases z with rfl | rfl
        · exact hel
        · exact hil
      rw [upd_ne (Nat.ne_of_lt hb')]
      exact (hf b hb).1
  done := by
    intro X hP hw hK hc i pins s σ H E I hf st hg
    subst hP hw hK
    obtain ⟨⟨old, he⟩, hit, hne, hai, hea⟩ := st
    obtain ⟨xs, hq, hx⟩ := hg
    obtain ⟨its, rv, p, hz⟩ := I.tuple hq
    obtain ⟨f0, f1, f2, f3, f4, f5⟩ := hf it (by simp)
    have hl : its.toArray.size = i := by rw [List.size_toArray, ← rv.length, hx]
    refine wpAny_pyNext_enum_endD (i := ((i : Nat) : Int)) (Draws.tuple (prog := X.prog) (w := X.w) (A := X.A.in1) (by exact I.ok.hd hc) it a hai its.toArray) he (by rw [hl]; exact ⟨hit, p⟩) fun g eb => ⟨rfl, I.turned (t' := s.toks) (fun b o hb q => eb b o hb q) f0 f1 f3 f4 f5⟩
  self := fun A i s Q E st h => let ⟨⟨_, he⟩, _⟩ := st; wpAny_pyIter_enum he h
def iEnumT (K : PySem.W.Frag) (ta : TA) : TI := fun σ H R => ta σ H fun vs H1 => ∃ a xs, vs = [.ref a] ∧ SqT K H1 a xs ∧ R (ItE K a) H1
theorem pi_enumT {X : Cx} {e : Expr} {ta : TA} {p pos tpos : Pos} {elts : List Expr} {kk : Nat} (hg : Gl X "enumerate") (hm : X.mg "enumerate" = none) (ha : PA X [e] ta) (hs : starEach [e] X.env = [(false, eval e X.env)] := by rfl) :
    PI X (.Tuple elts kk tpos) (.Call (.Name "enumerate" p) [e] [] pos) (iEnumT X.K ta) := by
  constructor
  intro pins s σ H R I h
  refine Call_ (ld_blt I hg hm boot_enumerate (PyProof.Rows.callWith_type1 (thn (ha.run pos pins s σ H _ I h) ?_) hs rfl))
  rintro us s1 ⟨vs, H1, I1, r1, a, xs, rfl, hq, q⟩
  obtain ⟨u, rfl, r⟩ := vals1 r1
  cases r
  obtain ⟨its, rv, p', hz⟩ := I1.tuple hq
  refine call_enum1 (begins_tuple a its.toArray) p' fun g he hit hk => wpAny_pyIter_enum he ?_
  have I2 : Inv X pins σ H1 { s1 with heap := g } := I1.kept (t' := s1.toks) hk
  have al : a < s1.heap.objs.size := p'.lt
  have st : (∃ old, IsEnum g (s1.heap.objs.size + 1) s1.heap.objs.size ((0 : Nat) : Int) old) ∧ g.IsTupleIter s1.heap.objs.size a 0 ∧ (s1.heap.objs.size + 1) ≠ s1.heap.objs.size ∧ a ≠ s1.heap.objs.size ∧ (s1.heap.objs.size + 1) ≠ a :=
    ⟨⟨.none, he⟩, ⟨_, hit, rfl, rfl⟩, Nat.succ_ne_self _, Nat.ne_of_lt al, Nat.ne_of_gt (Nat.lt_succ_of_lt al)⟩
  refine ⟨s1.heap.objs.size + 1, [s1.heap.objs.size + 1, s1.heap.objs.size], _, _, H1, rfl, I2, turn_enumT a (s1.heap.objs.size + 1) s1.heap.objs.size, st, fun b hb => ?_, q⟩
  have z : b = s1.heap.objs.size + 1 ∨ b = s1.heap.objs.size := by simpa using hb
  have hle : s1.heap.objs.size ≤ b := by
    rcases z with rfl | rfl
    · exact Nat.le_add_right _ _
    · exact Nat.le_refl _
  exact I1.fpOk hle (I1.hok.fresh hle)
/-- a for over it: at each turn a new pair -/
theorem walk_enumT {K : PySem.W.Frag} {a : Addr} {xs : List V} : Walk (ItE K a) xs.length (fun H => SqT K H a xs) (YPair (fun i => some (.int (i : Nat))) (fun i => xs[i]?)) := by
  refine ⟨fun i _ hi q => ⟨xs, xs[i], q, by simp [hi]⟩, fun _ q => ⟨xs, q, rfl⟩, fun i H v H' _ q y => ?_⟩
  obtain ⟨T, x, h1, h2, h3, h4⟩ := y
  exact ⟨T, .int (i : Nat), x, h1, h2, h3, rfl, h4 xs q⟩
/-! ### text.replace(step[1], step[2]), step a swap -/
def tRepl (to : TE) (i : Nat) : TE := fun σ H Q => to σ H fun v H1 => ∃ x p a b, v = .str x ∧ σ[i]? = some (some (.ref p)) ∧ SwapAt H1 p a b ∧ x.length + (x.length + 1) * b.length ≤ 16777216 ∧ Q (.str (Txt.replace x a b)) H1
/-- a local name that holds an object -/
theorem name_ref {X : Cx} {pins : List (Addr × Obj)} {σ : L2.St} {H : Hp} {s : Shared} {i : Nat} {x : Str} {p : Addr} {pos : Pos} {Q E : Value → Shared → Prop} (hN : X.N[i]? = some x) (hv : X.env.scope.names.lookup x = some .local) (I : Inv X pins σ H s)
    (hσ : σ[i]? = some (some (.ref p))) (q : Q (.ref p) s) (hd : (x == ("__debug__" : Str)) = false := by decide) : wpAny (model X.prog X.w) X.A (eval (.Name x pos) X.env) Q E s := by
  obtain ⟨m, hn, hl⟩ := I.loc
  obtain ⟨u, r, l⟩ := hl i x _ hN hσ (.inl hv)
  obtain rfl : u = Value.ref p := r
  rcases l with ⟨hk, hm⟩ | ⟨hk, _⟩
  · exact wpAny_Name (wpAny_loadName_local I.ok.kind hk hn hm q) hd
  · have hv' : X.env.kindOf x = some .local := hv
    rw [hv'] at hk
    rcases hk with hk | hk <;> cases hk
/-- an item at a written place of a tuple whose object is known -/
theorem item_raw {X : Cx} {pins : List (Addr × Obj)} {σ : L2.St} {H : Hp} {s : Shared} {i : Nat} {x : Str} {p : Addr} {its : Array Value} {k : Int} {j : Nat} {w : Value} {p1 cp pos : Pos} {Q E : Value → Shared → Prop} (hN : X.N[i]? = some x)
    (hv : X.env.scope.names.lookup x = some .local) (I : Inv X pins σ H s) (hσ : σ[i]? = some (some (.ref p))) (ht : s.heap.IsTuple p its) (h0 : 0 ≤ k) (h1 : k < its.size) (hz : its.size ≤ 1000) (hw : its[k.toNat]? = some w) (fin : ∀ tk, Q w { s with toks := tk })
    (hs : PlainIx (.Constant (.int k) j cp)) (hd : (x == ("__debug__" : Str)) = false := by decide) :
    wpAny (model X.prog X.w) X.A (eval (.Subscript (.Name x p1) (.Constant (.int k) j cp) pos) X.env) Q E s := by
  refine Subscript_ (name_ref hN hv I hσ (wpAny_Constant_int ?_) hd)
  exact subscriptTail_builtinR (x := w) ht.typeIs slot_tuple_getitem.lookup
    (getItem_tuple (j := k.toNat) (Q := fun r s' => r = w ∧ Q r s') ht (by omega) (by omega) (by rw [seqIndex_of h0 h1]) hw ⟨rfl, fin _⟩) (hs _ _)
theorem pe_replT {X : Cx} {i : Nat} {kx : Str} {o : Expr} {to : TE} {j0 j1 : Nat} {p2 p3 c0 c1 q0 q1 apos pos : Pos} (nb : NoneBooked X.base) (ho : PE X o to) (hN : X.N[i]? = some kx) (hv : X.env.scope.names.lookup kx = some .local) (hd : (kx == ("__debug__" : Str)) = false := by decide)
    (hst : starEach [.Subscript (.Name kx p2) (.Constant (.int 1) j0 c0) q0, .Subscript (.Name kx p3) (.Constant (.int 2) j1 c1) q1] X.env =
      [(false, eval (.Subscript (.Name kx p2) (.Constant (.int 1) j0 c0) q0) X.env), (false, eval (.Subscript (.Name kx p3) (.Constant (.int 2) j1 c1) q1) X.env)] := by rfl)
    (hbase : attributeBase o "replace" X.env (eval o X.env) = eval o X.env := by rfl) (hline : (apos.endLine == pos.line) = true := by rfl) :
    PE X (.Call (.Attribute o "replace" apos) [.Subscript (.Name kx p2) (.Constant (.int 1) j0 c0) q0, .Subscript (.Name kx p3) (.Constant (.int 2) j1 c1) q1] [] pos) (tRepl to i) := by
  constructor
  intro pins s σ H Q I h
  refine PySem.Call_method2 hbase hst hline (thn (ho.run pins s σ H _ I h) ?_)
  rintro v s1 ⟨y, H1, I1, r1, x, p, a, b, rfl, hσ, ⟨n, t0, t, u, hp, ht, hu, htu⟩, hz, q⟩
  obtain ⟨tx, rfl⟩ := r1
  obtain ⟨hob, _⟩ := I1.hok p _ hp
  have tup : ∀ k, ({ s1 with toks := k } : Shared).heap.IsTuple p #[.str "swap" t0, .str a t, .str b u] := fun k => ⟨_, hob, rfl, n, rfl⟩
  refine ⟨"str", _, F.plainAttrs_str, F.slot_str_replace, F.type_str_replace, typeIs_str _ _ _, (fun _ e => nomatch e), Calls.callWith_builtin rfl (Calls.evalArgs_plain (Calls.spliced_cons ?_))⟩
  refine item_raw hN hv I1 hσ (tup s1.toks) (by decide) (by show (1:Int) < ((3:Nat):Int); decide) (by show 3 ≤ 1000; decide) rfl (fun k1 => ?_) (fun _ _ => rfl) hd
  refine Calls.spliced_cons (item_raw hN hv (I1.tok k1) hσ (tup k1) (by decide) (by show (2:Int) < ((3:Nat):Int); decide) (by show 3 ≤ 1000; decide) rfl (fun k2 => Calls.spliced_nil ?_) (fun _ _ => rfl) hd)
  exact replace_all (s := { s1 with toks := k2 }) (unbooked nb (I1.tok k2)) ht hu htu hz fun t' k => ⟨.str (Txt.replace x a b), H1, I1.tok k, ⟨t', rfl⟩, q⟩
end Pd

namespace Pd
open PySem PySem.Spec PyProof.Rows L2
/-! ### way, sign = .., signs[..]; the returns by way; the one of a swap by known tokens -/
section
variable {X : Cx} {pins : List (Addr × Obj)} {σ : L2.St} {H : Hp} {s : Shared}
theorem test_int {i : Nat} {x : Str} {n k : Int} {j : Nat} {p1 cp pos : Pos} {whole : Sem Value} {Q : Bool → Shared → Prop} {E : Value → Shared → Prop} (hN : X.N[i]? = some x) (hv : X.env.scope.names.lookup x = some .local) (I : Inv X pins σ H s)
    (hσ : σ[i]? = some (some (.int n))) (q : Q (n == k) { s with toks := s.toks + 1 }) (hd : (x == ("__debug__" : Str)) = false := by decide) :
    wpAny (model X.prog X.w) X.A (isTrue (.Compare (.Name x p1) [.Eq] [.Constant (.int k) j cp] pos) X.env whole) Q E s := by
  obtain ⟨m, hn, hl⟩ := I.loc
  obtain ⟨u, r, l⟩ := hl i x _ hN hσ (.inl hv)
  obtain ⟨t, rfl⟩ := r
  rcases l with ⟨hk, hm⟩ | ⟨hk, _⟩
  · exact wpAny_isTrue_Compare1 (wpAny_Name (wpAny_loadName_local I.ok.kind hk hn hm (wpAny_Constant_int (eq_int (wpAny_truthy_bool q)))) hd)
  · have hv' : X.env.kindOf x = some .local := hv
    rw [hv'] at hk
    rcases hk with hk | hk <;> cases hk
/-- an item of a list of texts, its token known -/
theorem pick_raw {ig : Nat} {gx : Str} {a : Addr} {cs : List Str} {its : List Value} {n m k : Nat} {idx : Expr} {ti : TE} {p1 pos : Pos} {R : Value → Shared → Prop} (hN : X.N[ig]? = some gx) (hv : X.env.scope.names.lookup gx = some .local) (I : Inv X pins σ H s)
    (hσ : σ[ig]? = some (some (.ref a))) (hi : PE X idx ti) (hs : PlainIx idx) (tk : TkL m k cs its) (hz : cs.length ≤ 1000)
    {C : V → Hp → Prop} (h : ti σ H C) (hC : ∀ y H2, C y H2 → ∃ (i : Int) (c : Str), y = .int i ∧ H2 a = some (.frz { cls := .type "list", data := .seq its.toArray n } (.lst (cs.map V.str))) ∧ 0 ≤ i ∧ cs[i.toNat]? = some c ∧
      ∀ s2 t, Inv X pins σ H2 s2 → its[i.toNat]? = some (.str c t) → m ≤ t → s.toks ≤ s2.toks → R (.str c t) s2) (hd : (gx == ("__debug__" : Str)) = false := by decide) :
    wpAny (model X.prog X.w) X.A (eval (.Subscript (.Name gx p1) idx pos) X.env) R X.xe s := by
  refine Subscript_ (name_ref hN hv I hσ (thn (tkE (Nat.le_refl s.toks) (hi.run pins s σ H _ I h)) ?_) hd)
  rintro u s2 ⟨ht, y, H2, I2, ry, hy⟩
  obtain ⟨i, c, rfl, hf, h0, hc, q⟩ := hC y H2 hy
  obtain ⟨t, rfl⟩ := ry
  obtain ⟨hob, _⟩ := I2.hok a _ hf
  obtain ⟨t2, e, l1, l2⟩ := tk.get hc
  have lst : s2.heap.IsList a its.toArray := ⟨_, hob, rfl, n, rfl⟩
  have hb : i.toNat < cs.length := (List.getElem?_eq_some_iff.mp hc).1
  exact item_listR lst h0 (by omega) (by simpa using e) (q s2 t2 I2 e l1 ht) (hs _ _)
end
def tSwap (iw is ig : Nat) (t1 ti ti2 : TE) (t0 tr : TS) : TS := fun D σ H => t1 σ H fun x H1 => ∃ (n : Int) (a : Addr) (cs : List Str), x = .int n ∧ σ[ig]? = some (some (.ref a)) ∧ cs.length ≤ 1000 ∧ TxtsAt H1 a cs ∧
  ti σ H1 fun y H2 => ∃ (i : Int) (c : Str), y = .int i ∧ H2 a = H1 a ∧ 0 ≤ i ∧ cs[i.toNat]? = some c ∧
  (n = 0 → t0 { D with nx := fun _ _ => False } ((σ.set iw (some (.int n))).set is (some (.str c))) H2) ∧
  (n = 1 → ti2 ((σ.set iw (some (.int n))).set is (some (.str c))) H2 fun y2 H3 => ∃ (j : Int) (d : Str), y2 = .int j ∧ H3 a = H2 a ∧ 0 ≤ j ∧ cs[j.toNat]? = some d ∧
    ∀ p H4, H3 p = none → SwapAt H4 p c d → (∀ b, b ≠ p → H4 b = H3 b) → D.rt (.ref p) H4) ∧
  (n ≠ 0 → n ≠ 1 → tr D ((σ.set iw (some (.int n))).set is (some (.str c))) H2)
set_option maxHeartbeats 1000000 in
theorem pss_swap {X : Cx} {iw is ig : Nat} {wx sx gx : Str} {e1 idx idx2 : Expr} {t1 ti ti2 : TE} {t0 tr : TS} {r0 rest : List Stmt} {k0 k1 k2 : Nat} {j0 j1 j2 : Nat}
    {a1 a2 a3 a4 a5 a6 a7 b1 b2 b3 b4 c1 c2 c3 c4 c5 c6 c7 c8 c9 c10 : Pos} (hc : X.calm = true) (hN : X.N.Nodup)
    (hw : X.N[iw]? = some wx) (hs : X.N[is]? = some sx) (hg : X.N[ig]? = some gx) (n1 : iw ≠ is) (n2 : ig ≠ iw) (n3 : ig ≠ is)
    (lw : X.env.scope.names.lookup wx = some .local) (ls : X.env.scope.names.lookup sx = some .local) (lg : X.env.scope.names.lookup gx = some .local)
    (h1 : PE X e1 t1) (hi : PE X idx ti) (hi2 : PE X idx2 ti2) (p1 : PlainIx idx) (p2 : PlainIx idx2) (h0 : PSs X r0 t0) (hr : PSs X rest tr)
    (dw : (wx == ("__debug__" : Str)) = false) (ds : (sx == ("__debug__" : Str)) = false) (dg : (gx == ("__debug__" : Str)) = false)
    (hst : starEach [e1, .Subscript (.Name gx a1) idx a2] X.env = [(false, eval e1 X.env), (false, eval (.Subscript (.Name gx a1) idx a2) X.env)])
    (hst2 : starEach [.Constant (.str "swap") j2 c5, .Name sx c6, .Subscript (.Name gx c7) idx2 c8] X.env = [(false, eval (.Constant (.str "swap") j2 c5) X.env), (false, eval (.Name sx c6) X.env), (false, eval (.Subscript (.Name gx c7) idx2 c8) X.env)])
    (hsw : swappedStores [.Tuple [.Name wx a3, .Name sx a4] k0 a5] (.Tuple [e1, .Subscript (.Name gx a1) idx a2] k1 a6) X.env = pure (some [wx, sx]))
    (hss : swapsWithSole [.Tuple [.Name wx a3, .Name sx a4] k0 a5] (.Tuple [e1, .Subscript (.Name gx a1) idx a2] k1 a6) a7.line X.env = pure false) :
    PSs X (.Assign [.Tuple [.Name wx a3, .Name sx a4] k0 a5] (.Tuple [e1, .Subscript (.Name gx a1) idx a2] k1 a6) a7
      :: .If (.Compare (.Name wx b1) [.Eq] [.Constant (.int 0) j0 b2] b3) r0 [] b4
      :: .If (.Compare (.Name wx c1) [.Eq] [.Constant (.int 1) j1 c2] c3) [.Return (some (.Tuple [.Constant (.str "swap") j2 c5, .Name sx c6, .Subscript (.Name gx c7) idx2 c8] k2 c9)) c4] [] c10
      :: rest) (tSwap iw is ig t1 ti ti2 t0 tr) := by
  constructor
  intro pins s σ H D I h
  refine wpAny_execs_cons ?_
  rw [exec_Assign_arm]
  refine wpAny_bind (wpAny_standAt ?_)
  rw [hss]
  refine wpAny_bind (wpAny_pure ?_)
  rw [if_neg (by decide)]
  refine wpAny_bind (Tuple_ ?_)
  rw [hst]
  show wpAny _ _ (spliced ((false, eval e1 X.env) :: [(false, eval (.Subscript (.Name gx a1) idx a2) X.env)])) _ _ s
  refine Calls.spliced_cons (thn (h1.run pins s σ H _ I h) ?_)
  rintro u1 s1 ⟨x, H1, I1, r1, n, a, cs, rfl, hσ, hz, ⟨its, nn, m, k, hf, tk, hm⟩, h2⟩
  refine Calls.spliced_cons (pick_raw (n := nn) hg lg I1 hσ hi p1 tk hz h2 ?_ dg)
  rintro y H2 ⟨i, c, rfl, ha, h0', hcs, w0, w1, w2⟩
  refine ⟨i, c, rfl, ha.trans hf, h0', hcs, fun s2 t I2 e2 hmt hst' => Calls.spliced_nil ?_⟩
  obtain ⟨tn, rfl⟩ := r1
  refine wpAny_newObj_type ?_ (by show 2 ≤ sizeLine; decide)
  have I3 : Inv X pins σ H2 { s2 with heap := s2.heap.push { cls := .type "tuple", data := .seq [Value.int n tn, .str c t].toArray } } := I2.kept (t' := s2.toks) fun b o e => Heap.get?_push_of_some _ e
  rw [hsw]
  refine wpAny_bind (wpAny_pure ?_)
  show wpAny (model X.prog X.w) X.A (do rule "assign.swapped-stores"; let items ← unpackItems (.ref s2.heap.objs.size) 2 none; assignInOrder [fun v => bindName X.env sx v, fun v => bindName X.env wx v] items.reverse; pure Flow.next) _ _ _
  refine wpAny_bind (wpAny_rule (wpAny_bind (unpackItems_tuple (items := #[Value.int n tn, .str c t]) (I.ok.hd hc) (IsTup.new s2.heap _) fun g hx' => ?_)))
  have I4 := I3.kept (h' := g) (t' := s2.toks) fun b o e => hx' b o (Nat.ne_of_lt (Heap.lt_size e)) e
  show wpAny _ _ (assignInOrder [fun v => bindName X.env sx v, fun v => bindName X.env wx v] [Value.str c t, .int n tn] >>= fun _ => pure Flow.next) _ _ _
  refine wpAny_bind (assignInOrder_cons (wpAny_bindName (store_raw (v := V.str c) I4 hN hs ls ⟨t, rfl⟩ fun s3 I5 K5 _ _ => ?_)))
  refine assignInOrder_cons (wpAny_bindName (store_raw (v := V.int n) I5 hN hw lw ⟨tn, rfl⟩ fun s4 I6 _ keep6 _ => assignInOrder_nil (wpAny_pure ?_)))
  have K6 : Holds X s4 sx (.str c t) := keep6 sx _ (fun e => n1 (nodup_ix hN hw (e ▸ hs))) K5
  rw [List.set_comm _ _ (Ne.symm n1)] at I6
  have hl : σ.length = X.N.length := I.len
  have lw1 : iw < σ.length := by rw [hl]; exact (List.getElem?_eq_some_iff.mp hw).1
  have sw : ((σ.set iw (some (V.int n))).set is (some (.str c)))[iw]? = some (some (.int n)) := by
    rw [List.getElem?_set_ne (Ne.symm n1), List.getElem?_set_self lw1]
  have sg : ((σ.set iw (some (V.int n))).set is (some (.str c)))[ig]? = some (some (.ref a)) := by
    rw [List.getElem?_set_ne (Ne.symm n3), List.getElem?_set_ne (Ne.symm n2)]; exact hσ
  generalize hS : (σ.set iw (some (V.int n))).set is (some (.str c)) = σ' at *
  -- if way == 0
  refine wpAny_execs_cons (wpAny_If (test_int hw lw I6 sw ?_ dw))
  by_cases e0 : n = 0
  · have e : (n == 0) = true := by simp [e0]
    rw [e]
    refine thn (h0.run pins _ σ' H2 _ (I6.tok _) (w0 e0)) fun f s5 q => ?_
    cases f with
    | next => obtain ⟨_, _, _, z⟩ := q; exact z.elim
    | ret v => exact q
    | brk => exact q
    | cont => exact q
  · have e : (n == 0) = false := by simp [e0]
    rw [e]
    refine wpAny_execs_nil ?_
    -- if way == 1
    refine wpAny_execs_cons (wpAny_If (test_int hw lw (I6.tok _) sw ?_ dw))
    by_cases e1 : n = 1
    · have e : (n == 1) = true := by simp [e1]
      rw [e]
      refine wpAny_execs_cons (wpAny_Return_some (Tuple_ ?_))
      rw [hst2]
      show wpAny _ _ (spliced ((false, eval (.Constant (.str "swap") j2 c5) X.env) :: (false, eval (.Name sx c6) X.env) :: [(false, eval (.Subscript (.Name gx c7) idx2 c8) X.env)])) _ _ _
      refine Calls.spliced_cons (Calls.Constant_str (Calls.spliced_cons ?_))
      refine ((K6.tok _).tok _).load (((I6.tok _).tok _).tok _) (Calls.spliced_cons ?_) ds
      refine pick_raw (n := nn) hg lg (((I6.tok _).tok _).tok _) sg hi2 p2 tk hz (w1 e1) ?_ dg
      rintro y2 H3 ⟨j, d, rfl, ha3, hj, hd, fin⟩
      refine ⟨j, d, rfl, ha3.trans (ha.trans hf), hj, hd, fun s5 t2 I7 e7 hmt2 _ => Calls.spliced_nil ?_⟩
      refine wpAny_newTuple ?_ (by show 3 ≤ sizeLine; decide)
      have new : H3 s5.heap.objs.size = none := I7.hok.fresh (Nat.le_refl _)
      refine ⟨.ref s5.heap.objs.size, σ', upd H3 s5.heap.objs.size (.frz { cls := .type "tuple", data := .seq #[.str "swap" s4.toks.succ.succ, .str c t, .str d t2] 0 } (.tup [.str "swap", .str c, .str d])), ?_, rfl, fin _ _ new ⟨0, _, t, t2, upd_same, Nat.ne_of_gt (Nat.lt_of_lt_of_le hm hmt), Nat.ne_of_gt (Nat.lt_of_lt_of_le hm hmt2), fun z => ?_⟩ fun b hb => upd_ne hb⟩
      · refine I7.laid (t' := s5.toks) (fun b o q => Heap.get?_push_of_some _ q) (Nat.le_refl _) ⟨Heap.get?_push_size _ rfl, by show 3 ≤ sizeLine; decide, [.str "swap" _, .str c t, .str d t2], .cons ⟨_, rfl⟩ (.cons ⟨_, rfl⟩ (.cons ⟨_, rfl⟩ .nil)), ⟨_, Heap.get?_push_size _ rfl, rfl, _, rfl⟩⟩
      · subst z
        exact tk.inj e2 e7
    · have e : (n == 1) = false := by simp [e1]
      rw [e]
      exact wpAny_execs_nil (hr.run pins _ σ' H2 D ((I6.tok _).tok _) (w2 e0 e1))
end Pd

namespace Pd
open PySem PySem.Spec PyProof.Rows L2
/-! ### a comprehension over a range whose items are new texts: the list stays untracked, its tokens are known -/
theorem TkL.snoc : ∀ {n m p t : Nat} {c : Str} {cs : List Str} {us : List Value}, TkL n m cs us → m ≤ t → t < p → TkL n p (cs ++ [c]) (us ++ [.str c t])
  | _, _, _, _, _, _, _, r, h1, h2 => r.app (.cons h1 h2 (.nil (Nat.le_refl _)))
theorem TkL.up : ∀ {n m m' : Nat} {cs : List Str} {us : List Value}, TkL n m cs us → m ≤ m' → TkL n m' cs us
  | _, _, _, _, _, .nil h, l => .nil (Nat.le_trans h l)
  | _, _, _, _, _, .cons h1 h2 r, l => .cons h1 h2 (r.up l)
set_option maxHeartbeats 2000000 in
theorem lcT {X : Cx} {pins : List (Addr × Obj)} {s : Shared} {σ : L2.St} {H : Hp} {elt iter : Expr} {kx : Str} {ik : Nat} {px pos : Pos} {scope : Scope} {own : List (Str × Nat)} {ta : TA} {te : TE} {R : Value → Shared → Prop}
    (hc : X.calm = true) (hN : X.N.Nodup) (I : Inv X pins σ H s) (hi : PI X (.Name kx px) iter (iRng1 ta)) (ok : BlkOk X.N X.env.scope scope own) (hik : ik ∈ own.map (·.2))
    (hg : ∀ (s : Shared) (H : Hp) (C : Addr) (cl : List (Str × Addr)) (fp : List Addr), PG (X.blk s H scope (compEnvC scope cl C X.env) fp) (.Name kx px) (gName ik))
    (he : ∀ (s : Shared) (H : Hp) (C : Addr) (cl : List (Str × Addr)) (fp : List Addr), PEF (X.blk s H scope (compEnvC scope cl C X.env) fp) elt te)
    (hs : ∀ x, foldedSetIterable iter X.env x = pure x) {R0 : It → Hp → Prop} (h : iRng1 ta σ H R0)
    (hR : ∀ J H1, R0 J H1 → ∃ (n : Nat) (P : Nat → Hp → Prop) (G : Str → Prop), J = Itr 0 n ∧ n ≤ 1000 ∧ P 0 H1 ∧
      (∀ i H2, i < n → P i H2 → te ((wipe σ (own.map (·.2))).set ik (some (.int (0 + i)))) H2 fun y H3 => ∃ c, y = .str c ∧ G c ∧ P (i + 1) H3) ∧
      ∀ D cs its nn s' H', Inv X pins σ H' s' → P n H' → cs.length = n → (∀ c ∈ cs, G c) → TkL (s.toks + 1) (s'.toks + 1) cs its → s.toks ≤ s'.toks →
        s'.heap.get? D = some { cls := .type "list", data := .seq its.toArray nn } → H' D = none → R (.ref D) s') :
    wpAny (model X.prog X.w) X.A (eval (.ListComp elt [⟨.Name kx px, iter, [], 0⟩] scope pos) X.env) R X.xe s := by
  rw [eval_ListComp]
  have hfree : ∀ y ∈ scope.names, y.2 = .free → ∃ c, X.env.cells.lookup y.1 = some c := fun y hy e => by
    rcases ok.free y hy e with k | k
    · exact I.ok.has _ (.inl k)
    · exact I.ok.has _ (.inr k)
  refine wpAny_comprehension_free (use := none) rfl hs (closure_ok hfree) ok.kind (fun y hy e => by rw [ok.uniq y hy, e]) (thn (tkE (Nat.le_refl s.toks) (hi.run pins s σ H R0 I h)) ?_)
  rintro xv s1 ⟨l1, hx⟩
  refine thn (tkE l1 hx) ?_
  rintro itv s2 ⟨l2, it, fp, tn, J, H2, rfl, I2, T, st2, f2, q⟩
  obtain ⟨n, P, G, rfl, hn, p0, turn, fin⟩ := hR _ _ q
  refine wpAny_newObj_type (newEnv_comp ?_) (by show 0 ≤ sizeLine; decide)
  generalize hD : s2.heap.objs.size = D
  have dn : H2 D = none := I2.hok.fresh (Nat.le_of_eq hD)
  generalize hs3 : ({ s2 with heap := s2.heap.push { cls := .type "list", data := .seq ([] : List Value).toArray } } : Shared) = s3
  have I3 : Inv X pins σ H2 s3 := by
    rw [← hs3]
    exact I2.kept (t' := s2.toks) fun b o e => Heap.get?_push_of_some _ e
  have t3 : s3.toks = s2.toks := by rw [← hs3]
  have h3 : s3.heap = s2.heap.push { cls := .type "list", data := .seq ([] : List Value).toArray } := by rw [← hs3]
  have gD : s3.heap.get? D = some { cls := .type "list", data := .seq ([] : List Value).toArray } := by
    rw [h3, ← hD]
    exact Heap.get?_push_size _ rfl
  have sz : ∀ b ∈ fp, b < s2.heap.objs.size := fun b hb => by
    obtain ⟨o, e, _⟩ := T.obj _ _ st2 b hb
    exact Heap.lt_size e
  have nDf : D ∉ fp := fun z => Nat.lt_irrefl _ (by have := sz D z; rw [hD] at this; exact this)
  have f3 : ∀ b ∈ D :: fp, FpOk X pins H2 b ∧ b < s3.heap.objs.size := fun b hb => by
    rcases List.mem_cons.mp hb with rfl | hb
    · exact ⟨I2.fpOk (Nat.le_of_eq hD) dn, Heap.lt_size gD⟩
    · exact ⟨f2 b hb, by rw [h3, Heap.size_push]; exact Nat.lt_succ_of_lt (sz b hb)⟩
  have st3 : tn 0 s3.heap := T.keep _ _ _ st2 fun b _ o e => by rw [h3]; exact Heap.get?_push_of_some _ e
  have I4 := block_start I3 ok hN f3
  have pg := hg s3 H2 s3.heap.objs.size (cellsFrom (s3.heap.objs.size + 1) scope.names (cloFrom X.env.cells scope.names [])) (D :: fp)
  have pe := he s3 H2 s3.heap.objs.size (cellsFrom (s3.heap.objs.size + 1) scope.names (cloFrom X.env.cells scope.names [])) (D :: fp)
  show codeAny _ _ (.compStart (.ListComp elt [⟨.Name kx px, iter, [], 0⟩] scope pos) 0 (.ref it) (.ref D) (compEnvC scope (cellsFrom (s3.heap.objs.size + 1) scope.names (cloFrom X.env.cells scope.names [])) s3.heap.objs.size X.env)) (compPost (model X.prog X.w) X.A X.xe none R (.ref D) s3.heap.objs.size) { s3 with heap := pushCells (s3.heap.push { cls := .type "dict", data := .dict #[] }) scope.names }
  generalize hce : compEnvC scope (cellsFrom (s3.heap.objs.size + 1) scope.names (cloFrom X.env.cells scope.names [])) s3.heap.objs.size X.env = ce at I4 pg pe ⊢
  have cL : ce.locals = s3.heap.objs.size := by subst hce; rfl
  have up3 : ∀ b o, s3.heap.get? b = some o → (pushCells (s3.heap.push { cls := .type "dict", data := .dict #[] }) scope.names).get? b = some o := fun b o e => pushCells_keeps _ _ _ _ (Heap.get?_push_of_some _ e)
  generalize hs4 : ({ s3 with heap := pushCells (s3.heap.push { cls := .type "dict", data := .dict #[] }) scope.names } : Shared) = s4 at I4 ⊢
  have t4 : s4.toks = s2.toks := by rw [← hs4]; exact t3
  have st4 : tn 0 s4.heap := T.keep _ _ _ st3 fun b _ o e => by rw [← hs4]; exact up3 b o e
  have gD4 : s4.heap.get? D = some { cls := .type "list", data := .seq ([] : List Value).toArray } := by rw [← hs4]; exact up3 _ _ gD
  have stat : ∀ {σ' : L2.St} {H' : Hp} {s' : Shared}, Inv (X.blk s3 H2 scope ce (D :: fp)) [] σ' H' s' → (∀ b ∈ D :: fp, H' b = none) → ∀ b ∈ D :: fp, FpOk (X.blk s3 H2 scope ce (D :: fp)) [] H' b := fun {σ' H' s'} I' hn b hb =>
    ⟨hn b hb, (I'.ok.exf b hb).1, I'.ok.exfs b hb, .inl hb, fun x c e => (I'.ok.exf b hb).2 x c e, fun p hp => absurd (show p ∈ ([] : List (Addr × Obj)) ++ [] from hp) (by simp)⟩
  have loop : codeAny (model X.prog X.w) X.A (.compLoop (.ListComp elt [⟨.Name kx px, iter, [], 0⟩] scope pos) 0 (.ref it) (.ref D) ce) (compPost (model X.prog X.w) X.A X.xe none R (.ref D) s3.heap.objs.size) s4 := by
    refine compLoop_any (fun m s' => ∃ i H' cs its nn, m = n - i ∧ i ≤ n ∧ Inv (X.blk s3 H2 scope ce (D :: fp)) [] (wipe σ (own.map (·.2))) H' s' ∧ tn i s'.heap ∧ (∀ b ∈ D :: fp, H' b = none) ∧ P i H' ∧ cs.length = i ∧ (∀ c ∈ cs, G c) ∧
      TkL (s.toks + 1) (s'.toks + 1) cs its ∧ s.toks ≤ s'.toks ∧ s'.heap.get? D = some { cls := .type "list", data := .seq its.toArray nn }) ?_ n
      ⟨0, H2, [], [], 0, (Nat.sub_zero _).symm, Nat.zero_le _, I4, st4, fun b hb => (f3 b hb).1.1, p0, rfl, (fun _ z => nomatch z), .nil (by omega), by omega, gD4⟩
    rintro m s5 ⟨i, H5, cs, its, nn, rfl, hi', I5, st5, n5, pi, hcs, hG, tk, ts, g5⟩
    have I5' : Inv (X.blk s3 H2 scope ce (D :: fp)) ([] ++ pinsAt [D] s5.heap) (wipe σ (own.map (·.2))) H5 s5 :=
      I5.pinned (fp := [D]) (fun b hb => stat I5 n5 b (by rw [List.mem_singleton.mp hb]; exact List.mem_cons_self)) fun b hb => by
        rw [List.mem_singleton.mp hb]
        exact ⟨_, g5, fun v z => nomatch z⟩
    have pinD : ∀ {pl : List (Addr × Obj)} {σ' : L2.St} {H' : Hp} {s' : Shared}, Inv (X.blk s3 H2 scope ce (D :: fp)) (([] ++ pinsAt [D] s5.heap) ++ pl) σ' H' s' → s'.heap.get? D = some { cls := .type "list", data := .seq its.toArray nn } ∧ H' D = none := fun J =>
      let z := J.pin (D, _) (List.mem_append_right _ (List.mem_append_left _ (List.mem_append_right _ (mem_pinsAt (List.mem_singleton.mpr rfl) g5))))
      ⟨z.1, z.2.1⟩
    have stat5 : ∀ {σ' : L2.St} {H' : Hp} {s' : Shared}, Inv (X.blk s3 H2 scope ce (D :: fp)) ([] ++ pinsAt [D] s5.heap) σ' H' s' → (∀ b ∈ fp, H' b = none) → ∀ b ∈ fp, FpOk (X.blk s3 H2 scope ce (D :: fp)) ([] ++ pinsAt [D] s5.heap) H' b := fun {σ' H' s'} I' hn' b hb => by
      have hb' : b ∈ D :: fp := List.mem_cons_of_mem _ hb
      refine ⟨hn' b hb, (I'.ok.exf b hb').1, I'.ok.exfs b hb', .inl hb', fun x c e => (I'.ok.exf b hb').2 x c e, fun p hp => ?_⟩
      have hp' : p ∈ pinsAt [D] s5.heap := by simpa using hp
      have e := (of_pinsAt hp').1
      rw [List.mem_singleton.mp e]
      exact fun z => nDf (z ▸ hb)
    by_cases hlt : i < n
    · have ti := T.item (X.blk s3 H2 scope ce (D :: fp)) rfl rfl rfl hc i _ s5 _ H5 (fun _ _ => False) I5' (stat5 I5' fun b hb => n5 b (List.mem_cons_of_mem _ hb)) st5 hlt
      refine thnF (tkE (Nat.le_refl s5.toks) ti) ?_
      rintro r s6 ⟨l6, u, rfl, h6⟩
      refine thnF (tkE l6 h6) ?_
      rintro _ s7 ⟨l7, x, H7, I7, r7, ⟨rfl, rfl⟩, st7, n7⟩
      have I7' := I7.pinned (stat5 I7 n7) (T.obj _ _ st7)
      refine thnF (tkE l7 (pg.run _ s7 _ H7 (V.int (0 + i)) u (fun σ' H' => σ' = (wipe σ (own.map (·.2))).set ik (some (.int (0 + i))) ∧ H' = H7) I7' r7 ⟨rfl, rfl⟩)) ?_
      rintro _ s8 ⟨l8, σ8, H8, I8, rfl, rfl⟩
      refine wpAny_tests_nil ?_
      simp only [if_true]
      refine thnF (pe.run _ s8 _ _ _ I8 (turn i _ hlt pi)) ?_
      rintro z s10 ⟨⟨yv, H10, I10, r10, c, rfl, gc, p10⟩, l10, xz, tz, rfl, lz1, lz2⟩
      have ec : xz = c := by
        obtain ⟨tq, eq⟩ := r10
        injection eq
      subst ec
      obtain ⟨gD10, dn10⟩ := pinD I10
      have its10 : its.toArray.size ≤ sizeLine := by
        have e := tk.vals.length
        rw [List.length_map] at e
        rw [List.size_toArray, sizeLine_eq]; omega
      refine append_at (hsz := its10) gD10 fun g sb hg' => ?_
      have keepfp : ∀ b ∈ fp, ∀ o, s7.heap.get? b = some o → s10.heap.get? b = some o ∧ H10 b = none := fun b hb o e =>
        let z := I10.pin (b, o) (List.mem_append_right _ (List.mem_append_right _ (mem_pinsAt hb e)))
        ⟨z.1, z.2.1⟩
      have hl : (wipe σ (own.map (·.2))).length = ((wipe σ (own.map (·.2))).set ik (some (V.int (0 + i)))).length := by simp
      have J10 : Inv (X.blk s3 H2 scope ce (D :: fp)) [] (wipe σ (own.map (·.2))) H10 s10 := by
        refine (((I10.unpinned).unpinned) : Inv (X.blk s3 H2 scope ce (D :: fp)) [] _ H10 s10).weak hl fun j v e => ?_
        obtain ⟨e1, e2⟩ := wipe_some e
        have nji : ik ≠ j := fun z => e2 (z ▸ hik)
        rw [List.getElem?_set_ne nji]
        exact e
      have fD := stat J10 (fun b hb => by
        rcases List.mem_cons.mp hb with rfl | hb
        · exact dn10
        · obtain ⟨o, e, _⟩ := T.obj _ _ st7 b hb
          exact (keepfp b hb o e).2) D List.mem_cons_self
      obtain ⟨f0, f1, f2', f3', f4, f5⟩ := fD
      have J11 : Inv (X.blk s3 H2 scope ce (D :: fp)) [] (wipe σ (own.map (·.2))) H10 { s10 with heap := g } := J10.turned (t' := s10.toks) (fun b o hb e => (sb.2 b hb).trans e) f0 f1 f3' f4 f5
      refine ⟨n - (i + 1), by omega, i + 1, H10, cs ++ [xz], its ++ [.str xz tz], nn + 1, rfl, hlt, J11, ?_, ?_, p10, ?_, ?_, ?_, ?_, ?_⟩
      · refine T.keep _ _ _ st7 fun b hb o e => ?_
        exact (sb.2 b (fun z => nDf (z ▸ hb))).trans (keepfp b hb o e).1
      · intro b hb
        rcases List.mem_cons.mp hb with rfl | hb
        · exact dn10
        · obtain ⟨o, e, _⟩ := T.obj _ _ st7 b hb
          exact (keepfp b hb o e).2
      · rw [List.length_append, hcs]; rfl
      · intro c' hc'
        rcases List.mem_append.mp hc' with h' | h'
        · exact hG c' h'
        · rw [List.mem_singleton.mp h']; exact gc
      · exact (tk.up (Nat.succ_le_succ l8)).snoc lz1 (Nat.lt_succ_of_lt lz2)
      · exact Nat.le_trans ts (Nat.le_trans l8 l10)
      · rw [hg']
        simp
    · have ein : i = n := by omega
      subst ein
      have td := T.done (X.blk s3 H2 scope ce (D :: fp)) rfl rfl rfl hc i _ s5 _ H5 (fun _ _ => False) I5' (stat5 I5' fun b hb => n5 b (List.mem_cons_of_mem _ hb)) st5 (Nat.le_refl _)
      refine thnF (tkE (Nat.le_refl s5.toks) td) ?_
      rintro r s6 ⟨l6, rfl, I6⟩
      obtain ⟨gD6, dn6⟩ := pinD (pl := []) (by simpa using I6)
      have I7 : Inv X pins σ H5 s6 := I3.call' (ch := D :: fp) I6.os I6.base I6.hok I6.bare fun b hb => ⟨(f3 b hb).1.2.2.2.1, (f3 b hb).1.2.1, (f3 b hb).1.2.2.2.2.1, (f3 b hb).1.2.2.2.2.2⟩
      have nC : H5 s3.heap.objs.size = none := by
        have z : H5 ce.locals = none := I6.free
        rw [cL] at z
        exact z
      obtain ⟨mm, hn', _⟩ := I6.loc
      have hn' : s6.heap.Ns ce.locals mm := hn'
      rw [cL] at hn'
      obtain ⟨f0, f1, f2', f3', f4, f5⟩ := I3.fpOk (H' := H5) (Nat.le_refl _) nC
      refine ⟨mm, hn', fun g sb => ?_⟩
      have neDC : D ≠ s3.heap.objs.size := Nat.ne_of_lt (Heap.lt_size gD)
      exact fin D cs its nn _ H5 (I7.turned (t' := s6.toks) (fun b o hb e => (sb.2 b hb).trans e) f0 f1 f3' f4 f5) pi hcs hG (tk.up (Nat.succ_le_succ l6)) (Nat.le_trans ts l6) ((sb.2 D neDC).trans gD6) dn6
  exact codeAny_compStart_list loop (T.self X.A 0 _ _ _ st4 loop)
end Pd

namespace Pd
open PySem PySem.Spec PyProof.Rows L2
/-! ### a def that gives a new text -/
def FnT (P : Program) (w : World) (K : PySem.W.Frag) (mg : Str → Option Value) (base : Heap) (CX : CXT) (k : Nat) (f : Addr) (sp : Sp) : Prop :=
  ∀ (A : Around) (outer : List Env) (s : Shared) (H : Hp) (us : List Value) (vs : List V) (Q : VK) (E : XK), Room k A → Env0 P w K mg base A outer s H → Vals vs us → sp vs H Q E →
    codeAny (model P w) A (.call (.ref f) ⟨us, []⟩) (fun r s' => CR CX outer P w H s Q E r s' ∧ ∀ u, r = .ok (.ret u) → s.toks ≤ s'.toks ∧ Frsh (s.toks + 1) s'.toks u) s
theorem FnT.fnR {P : Program} {w : World} {K : PySem.W.Frag} {mg : Str → Option Value} {base : Heap} {CX : CXT} {k : Nat} {f : Addr} {sp : Sp} (F : FnT P w K mg base CX k f sp) : FnR P w K mg base CX k f sp :=
  fun A outer s H us vs Q E hr e0 r h => codeAny_mono (F A outer s H us vs Q E hr e0 r h) fun _ _ z => z.1
theorem fnT_ret {P : Program} {w : World} {K : PySem.W.Frag} {mg : Str → Option Value} {base : Heap} {x qual : Str} {st : Stmt} {f : Addr} {fd : FuncData} {N ps : List Str} {k : Nat} {sp : Sp} {e : Expr} {rpos : Pos}
    (F : Fun K x qual st f fd) (S : FnScope N ps (defScope st)) (hst : defBody st = [.Return (some e) rpos])
    (hb : ∀ (kV doc pm : Value) (an : Option Addr) (cdv ct : Value) (us : List Value), us.length = ps.length → bindArgs (PySem.W.fnOf x qual (defArgs st) (defBody st) (defScope st) .none kV doc pm an cdv ct) ⟨us, []⟩ = pure (ps.zip us))
    (len : ∀ vs H Q E, sp vs H Q E → vs.length = ps.length)
    (hbody : ∀ (cdv : Value) (A : Around) (outer : List Env) (s : Shared) (H : Hp) (vs : List V) (Q : VK) (E : XK), Room k (A.deeper (envOfC qual (defScope st) s.heap.objs.size f cdv)) → sp vs H Q E →
      ∃ t, PEF (cxOf CX0 P w K mg base N qual (defScope st) f cdv A outer s H E) e t ∧ t (start N vs) H Q) : FnT P w K mg base CX0 (k + 1) f sp := by
  obtain ⟨oc, od, kV, doc, pm, an, cdv, ct, osl, rfl, lk, hcd⟩ := F.ex
  intro A outer s H us vs Q E hr e0 r hsp
  have hl : us.length = ps.length := r.length.symm.trans (len _ _ _ _ hsp)
  have KX : K.In s.heap := e0.mod.kin.keeps fun b o e => (e0.bs b o e).1
  have lim : s.heap.NoLimit := e0.mod.nolimit.keeps fun b o e => (e0.bs b o e).1
  have hkind : ∀ y ∈ ps.zip us, (defScope st).names.lookup y.1 = some .local ∨ ((defScope st).names.lookup y.1 = some .cell ∧ ((cellsFrom (s.heap.objs.size + 1) (defScope st).names []).lookup y.1).isSome = true) := fun y hy => by
    rcases S.par y.1 (List.of_mem_zip hy).1 with q | q
    · exact .inl q
    · exact .inr ⟨q, PySem.W.cellsFrom_some _ _ _ (.inl q)⟩
  refine codeAny_call_function hr.depth (KX _ _ lk) rfl S.co S.gen rfl (PySem.W.codeRec_of KX hcd) (BindsTo.of_eq (hb kV doc pm an cdv ct us hl) _ _ _ _ ?_)
  refine wpAny_mono (tkE (Nat.le_refl s.toks) (wpAny_newFunctionEnv_cells S.kind hkind fun env he s1 x => (⟨he, x⟩ : env = _ ∧ InCallC s _ _ _ _ s1))) ?_ fun _ _ z => z
  rintro env s1 ⟨ht, rfl, x⟩
  refine ⟨lim.keeps x.toInCall.keep, codeAny_func ?_⟩
  obtain ⟨t, he, hq⟩ := hbody cdv A outer s H vs Q E (hr.deeper _) hsp
  have I : Inv (cxOf CX0 P w K mg base N qual (defScope st) f cdv A outer s H E) [] (start N vs) H s1 := inv_start S hr.hd e0 (len _ _ _ _ hsp) r x
  rw [hst]
  refine wpAny_execs_cons (wpAny_Return_some (wpAny_mono (he.run [] s1 _ H Q I hq) ?_ fun e s' z => ?_))
  · rintro u s' ⟨⟨v, H', J, rv, q⟩, l1, xz, tz, rfl, l2, l3⟩
    refine ⟨⟨v, H', J.os, J.bare, J.base, J.hok, rv, q⟩, fun u' eu => ?_⟩
    injection eu with eu
    injection eu with eu
    subst eu
    exact ⟨Nat.le_trans ht l1, xz, tz, rfl, Nat.le_trans (Nat.succ_le_succ ht) l2, l3⟩
  · exact wpAny_mono z (fun _ s'' h => ⟨h, fun _ e => nomatch e⟩) fun _ s'' h => ⟨h, fun _ e => nomatch e⟩
theorem pef_call {X : Cx} {k : Nat} {f : Addr} {sp : Sp} {E : XK} {x : Str} {e : Expr} {es : List Expr} {t : TA} {p pos : Pos} {CX : CXT} (F : FnT X.prog X.w X.K X.mg X.base CX k f sp) (hr : Room k X.A) (hg : Gl X x) (hm : X.mg x = some (.ref f)) (hk : PySem.W.keepIn X.K (.ref f) = true)
    (hx : Passes CX X E) (ha : PA X (e :: es) t) (hdb : (x == ("__debug__" : Str)) = false := by decide) (he : starEach (e :: es) X.env = (false, eval e X.env) :: starEach es X.env := by rfl) (hpl : (backTo pos (starEach es X.env)).any (·.1) = false := by rfl) :
    PEF X (.Call (.Name x p) (e :: es) [] pos) (fun σ H Q => t σ H fun vs H1 => sp vs H1 Q E) := by
  constructor
  intro pins s σ H Q I h
  refine wpAny_Call_Name_kw (ld_glob I hg hm ?_ hdb)
  refine PySem.W.callWith_K (h₀ := X.base) I.ok.mod.kin hk (thn (tkE (Nat.le_refl s.toks) (ha.run pos pins s σ H _ I h)) ?_) he hpl
  rintro us s1 ⟨l1, vs, H1, I1, r, q⟩
  refine ⟨I1.kIn, wpAny_call (codeAny_mono (F X.A X.stack s1 H1 us vs Q E hr I1.env0 r q) fun r s' hq => ?_)⟩
  obtain ⟨hq, h2⟩ := hq
  cases r with
  | error e => exact hx pins σ H1 s1 e s' I1 hq
  | ok fl =>
    cases fl with
    | next => exact False.elim hq
    | brk => exact False.elim hq
    | cont => exact False.elim hq
    | ret u =>
      obtain ⟨l2, xz, tz, rfl, l3, l4⟩ := h2 u rfl
      exact ⟨I1.after hq, Nat.le_trans l1 l2, xz, tz, rfl, Nat.le_trans (Nat.succ_le_succ l1) l3, l4⟩
/-- x(e, ..) by a promise of its positional arguments -/
theorem pe_callR {X : Cx} {k : Nat} {f : Addr} {sp : Sp} {E : XK} {x : Str} {e : Expr} {es : List Expr} {t : TA} {p pos : Pos} {CX : CXT} (F : FnR X.prog X.w X.K X.mg X.base CX k f sp) (hr : Room k X.A) (hg : Gl X x) (hm : X.mg x = some (.ref f)) (hk : PySem.W.keepIn X.K (.ref f) = true)
    (hx : Passes CX X E) (ha : PA X (e :: es) t) (hdb : (x == ("__debug__" : Str)) = false := by decide) (he : starEach (e :: es) X.env = (false, eval e X.env) :: starEach es X.env := by rfl) (hpl : (backTo pos (starEach es X.env)).any (·.1) = false := by rfl) :
    PE X (.Call (.Name x p) (e :: es) [] pos) (fun σ H Q => t σ H fun vs H1 => sp vs H1 Q E) := by
  constructor
  intro pins s σ H Q I h
  refine wpAny_Call_Name_kw (ld_glob I hg hm ?_ hdb)
  refine PySem.W.callWith_K (h₀ := X.base) I.ok.mod.kin hk (thn (ha.run pos pins s σ H _ I h) ?_) he hpl
  rintro us s1 ⟨vs, H1, I1, r, q⟩
  exact ⟨I1.kIn, wpAny_call (run_fnR F hr hx I1 r q)⟩
end Pd

namespace Pd
open PySem PySem.Spec PyProof.Rows L2
/-! ### letter = ..; found = [letter, letter.upper(), .., ' ']; return found + [.. for k in range(..)] -/
def four (x1 x2 : Str) : List Str := [x1, Txt.upper x1, x2, " "]
def tSigns (z1 z2 : Str) (il ifd ik : Nat) (own : List Nat) (tb1 tb2 : TE) (ta : TA) (te : TE) : TS := fun D σ H => tItemC z1 tb1 σ H fun v1 H1 => ∃ x1 : Str, v1 = .str x1 ∧ x1.length ≤ 1000 ∧
  tItemC z2 tb2 (σ.set il (some (.str x1))) H1 fun v2 H2 => ∃ x2 : Str, v2 = .str x2 ∧ ∀ a H3, H2 a = none → (∃ o, H3 a = some (.frz o (.lst ((four x1 x2).map .str)))) → (∀ b, b ≠ a → H3 b = H2 b) →
    iRng1 ta ((σ.set il (some (.str x1))).set ifd (some (.ref a))) H3 fun J H4 => ∃ (n : Nat) (P : Nat → Hp → Prop) (G : Str → Prop), J = Itr 0 n ∧ n ≤ 1000 ∧ P 0 H4 ∧
      (∀ i H5, i < n → P i H5 → te ((wipe ((σ.set il (some (.str x1))).set ifd (some (.ref a))) own).set ik (some (.int (0 + i)))) H5 fun y H6 => ∃ c, y = .str c ∧ G c ∧ P (i + 1) H6) ∧
      ∀ cs H', P n H' → cs.length = n → (∀ c ∈ cs, G c) → H' a = H3 a ∧ ∀ p H4, H' p = none → TxtsAt H4 p (four x1 x2 ++ cs) → (∀ b, b ≠ p → H4 b = H' b) → D.rt (.ref p) H4
set_option maxHeartbeats 2000000 in
theorem pss_signs {X : Cx} {z1 z2 : Str} {il ifd ik : Nat} {lx fx kx : Str} {b1 b2 elt iter : Expr} {tb1 tb2 te : TE} {ta : TA} {scope : Scope} {own : List (Str × Nat)} {j1 j2 j3 : Nat}
    {a1 a2 c1 c2 c3 d1 d2 d3 d4 p1 p2 p3 q1 q2 q3 q4 q5 px pos : Pos} (hc : X.calm = true) (hN : X.N.Nodup) (hl : X.N[il]? = some lx) (hf : X.N[ifd]? = some fx) (n1 : il ≠ ifd)
    (ll : X.env.scope.names.lookup lx = some .local) (lf : X.env.scope.names.lookup fx = some .local) (h1 : PE X b1 tb1) (h2 : PE X b2 tb2) (s1 : PlainIxT b1) (s2 : PlainIxT b2)
    (hi : PI X (.Name kx px) iter (iRng1 ta)) (ok : BlkOk X.N X.env.scope scope own) (hik : ik ∈ own.map (·.2))
    (hg : ∀ (s : Shared) (H : Hp) (C : Addr) (cl : List (Str × Addr)) (fp : List Addr), PG (X.blk s H scope (compEnvC scope cl C X.env) fp) (.Name kx px) (gName ik))
    (he : ∀ (s : Shared) (H : Hp) (C : Addr) (cl : List (Str × Addr)) (fp : List Addr), PEF (X.blk s H scope (compEnvC scope cl C X.env) fp) elt te)
    (hs : ∀ x, foldedSetIterable iter X.env x = pure x) (dl : (lx == ("__debug__" : Str)) = false) (df : (fx == ("__debug__" : Str)) = false)
    (hs1 : swapsWith (.Subscript (.Constant (.str z1) j1 c1) b1 d1) (some (.Name lx a1)) p1.line X.env = pure false)
    (hs2 : swapsWith (.List [.Name lx q1, .Call (.Attribute (.Name lx q2) "upper" q3) [] [] q4, .Subscript (.Constant (.str z2) j2 c2) b2 d2, .Constant (.str " ") j3 c3] d3) (some (.Name fx a2)) p2.line X.env = pure false)
    (hst : starEach [.Name lx q1, .Call (.Attribute (.Name lx q2) "upper" q3) [] [] q4, .Subscript (.Constant (.str z2) j2 c2) b2 d2, .Constant (.str " ") j3 c3] X.env =
      [(false, eval (.Name lx q1) X.env), (false, eval (.Call (.Attribute (.Name lx q2) "upper" q3) [] [] q4) X.env), (false, eval (.Subscript (.Constant (.str z2) j2 c2) b2 d2) X.env), (false, eval (.Constant (.str " ") j3 c3) X.env)])
    (hbase : attributeBase (.Name lx q2) "upper" X.env (eval (.Name lx q2) X.env) = eval (.Name lx q2) X.env) (hline : (q3.endLine == q4.line) = true) :
    PSs X [.Assign [.Name lx a1] (.Subscript (.Constant (.str z1) j1 c1) b1 d1) p1,
      .Assign [.Name fx a2] (.List [.Name lx q1, .Call (.Attribute (.Name lx q2) "upper" q3) [] [] q4, .Subscript (.Constant (.str z2) j2 c2) b2 d2, .Constant (.str " ") j3 c3] d3) p2,
      .Return (some (.BinOp (.Name fx q5) .Add (.ListComp elt [⟨.Name kx px, iter, [], 0⟩] scope pos) d4)) p3] (tSigns z1 z2 il ifd ik (own.map (·.2)) tb1 tb2 ta te) := by
  constructor
  intro pins s σ H D I h
  refine wpAny_execs_cons (wpAny_Assign_Name (thn ((pef_item h1 s1).run pins s σ H _ I h) ?_) hs1)
  rintro u1 t1 ⟨⟨v1, H1, I1, r1, x1, rfl, hx1, h'⟩, l1, y1, k1, rfl, k1a, k1b⟩
  have e1 : y1 = x1 := by
    obtain ⟨tq, eq⟩ := r1
    injection eq
  subst e1
  refine store_raw (v := V.str y1) I1 hN hl ll r1 fun t2 I2 K2 _ l2 => ?_
  refine wpAny_execs_cons (wpAny_Assign_Name (wpAny_List_spliced ?_) hs2)
  rw [hst]
  show wpAny _ _ (spliced ((false, eval (.Name lx q1) X.env) :: (false, eval (.Call (.Attribute (.Name lx q2) "upper" q3) [] [] q4) X.env) :: (false, eval (.Subscript (.Constant (.str z2) j2 c2) b2 d2) X.env) :: [(false, eval (.Constant (.str " ") j3 c3) X.env)])) _ _ _
  refine Calls.spliced_cons (K2.load I2 (Calls.spliced_cons ?_) dl)
  refine PySem.Call_method0 hbase hline (K2.load I2 ?_ dl)
  refine ⟨"str", _, F.plainAttrs_str, F.slot_str_upper, F.type_str_upper, typeIs_str _ _ _, (fun _ e => nomatch e), Calls.callWith_builtin rfl (PySem.evalArgs_none ?_)⟩
  have fit : Builtin.Str.tooLong (Txt.upper y1).length = false := PyProof.Rows.short24 (by have := PyProof.Rows.len_upper y1; omega)
  refine PySem.SC.upper fit (Calls.spliced_cons ?_)
  refine thn ((pef_item h2 s2).run pins _ _ H1 _ (I2.tok _) h') ?_
  rintro u3 t3 ⟨⟨v2, H2, I3, r3, x2, rfl, hx2⟩, l3, y3, k3, rfl, k3a, k3b⟩
  have e3 : y3 = x2 := by
    obtain ⟨tq, eq⟩ := r3
    injection eq
  subst e3
  refine Calls.spliced_cons (Calls.Constant_str (Calls.spliced_nil ⟨by show 4 ≤ sizeLine; decide, ?_⟩))
  have lay : ∀ {o : Obj} {u : HO}, ObjOk X.prog X.w (upd H2 t3.heap.objs.size u) (t3.heap.push o) t3.heap.objs.size u → Inv X pins (σ.set il (some (V.str y1))) (upd H2 t3.heap.objs.size u) { t3 with heap := t3.heap.push o, toks := t3.toks + 1 } :=
    fun w => I3.laid (t' := t3.toks + 1) (fun b o q => Heap.get?_push_of_some _ q) (Nat.le_refl _) w
  have tk4 : TkL (s.toks + 1) (t3.toks + 1) (four y1 y3) [.str y1 k1, .str (Txt.upper y1) t2.toks, .str y3 k3, .str " " t3.toks] := by
    refine .cons (k := t2.toks) k1a (Nat.lt_of_lt_of_le k1b l2) (.cons (k := t2.toks + 1) (Nat.le_refl _) (Nat.lt_succ_self _) (.cons (k := t3.toks) ?_ k3b (.cons (k := t3.toks + 1) (Nat.le_refl _) (Nat.lt_succ_self _) (.nil (Nat.le_refl _)))))
    exact Nat.le_of_succ_le k3a
  have I4 := lay (o := { cls := .type "list", data := .seq [Value.str y1 k1, .str (Txt.upper y1) t2.toks, .str y3 k3, .str " " t3.toks].toArray }) (u := .frz { cls := .type "list", data := .seq [Value.str y1 k1, .str (Txt.upper y1) t2.toks, .str y3 k3, .str " " t3.toks].toArray } (.lst ((four y1 y3).map .str)))
    ⟨Heap.get?_push_size _ rfl, by show 4 ≤ sizeLine; decide, _, 0, tk4.vals, Heap.get?_push_size _ rfl⟩
  have new2 : H2 t3.heap.objs.size = none := I3.hok.fresh (Nat.le_refl _)
  have h3 := hx2 t3.heap.objs.size _ new2 ⟨_, upd_same⟩ fun b hb => upd_ne (o := .frz { cls := .type "list", data := .seq [Value.str y1 k1, .str (Txt.upper y1) t2.toks, .str y3 k3, .str " " t3.toks].toArray } (.lst ((four y1 y3).map .str))) hb
  generalize hA : t3.heap.objs.size = a at *
  generalize hO : ({ cls := .type "list", data := .seq [Value.str y1 k1, .str (Txt.upper y1) t2.toks, .str y3 k3, .str " " t3.toks].toArray } : Obj) = o4 at *
  refine store_raw (v := V.ref a) I4 hN hf lf rfl fun t5 I5 _ _ l5 => ?_
  refine wpAny_execs_cons (wpAny_Return_some (wpAny_BinOp ?_))
  have hlen : σ.length = X.N.length := I.len
  have lf1 : ifd < (σ.set il (some (V.str y1))).length := by rw [List.length_set, hlen]; exact (List.getElem?_eq_some_iff.mp hf).1
  refine name_ref hf lf I5 (List.getElem?_set_self lf1) ?_ df
  refine lcT hc hN I5 hi ok hik hg he hs h3 ?_
  rintro J H4 ⟨n, P, G, rfl, hn, p0, turn, fin⟩
  refine ⟨n, P, G, rfl, hn, p0, turn, ?_⟩
  intro D' cs its nn s' H' I' pn hcs hG tk ls gD nD
  obtain ⟨ha, fin2⟩ := fin cs H' pn hcs hG
  rw [upd_same] at ha
  obtain ⟨ga, _⟩ := I'.hok a _ ha
  subst hO
  refine PySem.P.add_list ga gD ?_ ?_
  · have ea : ([Value.str y1 k1, .str (Txt.upper y1) t2.toks, .str y3 k3, .str " " t3.toks].toArray ++ its.toArray) = ([Value.str y1 k1, .str (Txt.upper y1) t2.toks, .str y3 k3, .str " " t3.toks] ++ its).toArray := by simp
    rw [ea]
    have new' : H' s'.heap.objs.size = none := I'.hok.fresh (Nat.le_refl _)
    have tkA : TkL (s.toks + 1) (s'.toks + 1) (four y1 y3 ++ cs) ([Value.str y1 k1, .str (Txt.upper y1) t2.toks, .str y3 k3, .str " " t3.toks] ++ its) := (tk4.up (Nat.le_trans l5 (Nat.le_succ _))).app tk
    have len : (four y1 y3 ++ cs).length ≤ sizeLine := by
      rw [List.length_append, hcs, sizeLine_eq]; show 4 + n ≤ _; omega
    refine ⟨.ref s'.heap.objs.size, _, upd H' s'.heap.objs.size (.frz { cls := .type "list", data := .seq ([Value.str y1 k1, .str (Txt.upper y1) t2.toks, .str y3 k3, .str " " t3.toks] ++ its).toArray } (.lst ((four y1 y3 ++ cs).map .str))),
      I'.laid (t' := s'.toks) (fun b o q => Heap.get?_push_of_some _ q) (Nat.le_refl _) ⟨Heap.get?_push_size _ rfl, by rw [List.length_map]; exact len, _, 0, tkA.vals, Heap.get?_push_size _ rfl⟩, rfl, ?_⟩
    exact fin2 _ _ new' ⟨_, 0, _, _, upd_same, tkA, by omega⟩ fun b hb => upd_ne hb
  · have e := tk.vals.length
    rw [List.length_map, hcs] at e
    rw [List.size_toArray, List.size_toArray, ← e]
    show 4 + n ≤ sizeLine
    rw [sizeLine_eq]; omega
end Pd

namespace Pd
open PySem PySem.Spec PyProof.Rows L2
/-! ### an instance called with keywords alone -/
theorem callO_kw {M : Model} {A : Around} {E : Value → Shared → Prop} {s : Shared} {a : Addr} {pos : Pos} {Q : Value → Shared → Prop} {args : List (Bool × Sem Value)} {kws : List (Option Str × Sem Value)} (hplain : (args.any (·.1) || kws.any (·.1.isNone)) = false)
    (h : wpAny M A (evalArgs (.ref a) true args kws) (fun z s1 => (∃ C ox od, PySem.W.InstAt s1.heap a ox C od ∧ ox.data = .plain) ∧ wpAny M A (call (.ref a) ([] ++ z.pos) z.kw) Q E s1) E s) : wpAny M A (callWith pos (.ref a) [] args kws) Q E s := by
  unfold callWith
  refine wpAny_bind (wpAny_holding (wpAny_mono h ?_ fun _ _ y => y))
  rintro z s1 ⟨⟨C, ox, od, J, hd⟩, h1⟩
  refine wpAny_bind (wpAny_standAt ?_)
  simp only [hplain]
  refine wpAny_bind ((PySem.W.kco_keeper (M := M) J hd).here ?_)
  refine wpAny_bind (wpAny_mono (wpAny_operateT h1) ?_ fun _ _ y => y)
  exact fun r s2 hr => wpAny_bind (wpAny_holding (wpAny_point (wpAny_pure hr)))
def tCallOK (X : Cx) (C : Addr) (m : Nat) (sp : Sp) (gV : List V → List V → List V) (E : XK) (tf : TE) (tk : TA) : TE := fun σ H Q => tf σ H fun y H1 => ∃ a, y = V.ref a ∧ tk σ H1 fun zs H2 => zs.length = m ∧ StX.InsC X H2 a C ∧ sp (gV [V.ref a] zs) H2 Q E
theorem pe_callOK {X : Cx} {CX : CXT} {k : Nat} {C g : Addr} {fd : FuncData} {ps ks : List Str} {sp : Sp} {E : XK} {fe : Expr} {tf : TE} {pos : Pos} {kws : List Keyword} {tk : TA} {gv : List Value → List Value → List Value} {gV : List V → List V → List V}
    (hf : PE X fe tf) (c : StX.CallO X.K C g) (F : FnOk X.prog X.w X.K X.mg X.base CX k g fd ps sp) (hr : Room k X.A) (hb : KBn X.K fd ps 1 ks gv gV) (hx : Passes CX X E) (hkw : PK X kws tk)
    (ht : eval (.Call fe [] kws pos) X.env = (do callWith pos (← eval fe X.env) [] (backTo pos (starEach [] X.env)) (backToKw pos (keywordEach kws X.env))) := by rfl)
    (hall : (backToKw pos (keywordEach kws X.env)).all (·.1.isSome) = true := by rfl) (hks : (backToKw pos (keywordEach kws X.env)).filterMap (·.1) = ks := by rfl)
    (hpl : ((backTo pos (starEach [] X.env)).any (·.1) || (backToKw pos (keywordEach kws X.env)).any (·.1.isNone)) = false := by rfl) : PE X (.Call fe [] kws pos) (tCallOK X C ks.length sp gV E tf tk) := by
  constructor
  intro pins s σ H Q I h
  rw [ht]
  refine wpAny_bind (thn (hf.run pins s σ H _ I h) ?_)
  rintro u s1 ⟨y, H1, I1, ry, a, rfl, q⟩
  obtain rfl : u = Value.ref a := ry
  refine callO_kw hpl (evalArgs_kw2_nil hall (thn (hkw.run pos pins s1 σ H1 _ I1 q) ?_))
  rintro ws s2 ⟨zs, H2, I2, rz, l2, hi, q2⟩
  obtain ⟨ox, od, J, hd⟩ := StX.insC_at I2 hi
  refine ⟨⟨C, ox, od, J, hd⟩, ?_⟩
  rw [hks]
  have r2 := hb.rel (vs := [V.ref a]) (us := [Value.ref a]) (.cons rfl .nil) rz
  refine wpAny_call (PySem.W.kco_code (a := ⟨[] ++ [], ks.zip ws⟩) I2.kIn J hd c.at_ c.fn c.fi (codeAny_mono (F.run X.A X.stack s2 H2 ⟨[Value.ref a], ks.zip ws⟩ _ _ Q E hr I2.env0 (hb.to s2 _ ws I2.kIn rfl (rz.length.symm.trans l2)) r2 q2) ?_))
  intro r s' hq
  cases r with
  | error e => exact hx pins σ H2 s2 e s' I2 hq
  | ok fl =>
    cases fl with
    | ret u => exact I2.after hq
    | next => exact False.elim hq
    | brk => exact False.elim hq
    | cont => exact False.elim hq
end Pd

namespace Pd
open SX
/-! ### the document's steps, on lists of signs -/
/-- the signs that texts may have -/
def CH : List Nat := [97, 98, 99, 100, 101, 102, 103, 104, 105, 106, 107, 108, 109, 110, 111, 112, 113, 114, 115, 116, 117, 118, 119, 120, 121, 122,
  65, 66, 67, 68, 69, 70, 71, 72, 73, 74, 75, 76, 77, 78, 79, 80, 81, 82, 83, 84, 85, 86, 87, 88, 89, 90, 48, 49, 50, 51, 52, 53, 54, 55, 56, 57, 32, 45, 46, 95, 47, 39]
inductive Stp where
  | low | swap (a b : Nat) | drop (cs : List Nat) | lead (a : Nat) | once (a : Nat) | cut (n : Nat)
def lowC (c : Nat) : Nat := if 65 ≤ c ∧ c ≤ 90 then c + 32 else c
def swapC (a b c : Nat) : Nat := if c = a then b else c
def keepAt (a : Nat) (l : List Nat) (i : Nat) : Bool := decide (l.getD i 0 ≠ a) || decide (i = 0) || decide (l.getD (i - 1) 0 ≠ a)
def onceN (a : Nat) (l : List Nat) : Nat → List Nat
  | 0 => []
  | i + 1 => onceN a l i ++ (if keepAt a l i = true then [l.getD i 0] else [])
def onceL (a : Nat) (l : List Nat) : List Nat := onceN a l l.length
def mk : Stp → List Nat → List Nat
  | .low, l => l.map lowC
  | .swap a b, l => l.map (swapC a b)
  | .drop cs, l => l.filter (fun c => decide (c ∉ cs))
  | .lead a, l => l.dropWhile (fun c => decide (c = a))
  | .once a, l => onceL a l
  | .cut n, l => l.take n
/-- a step that the document allows -/
def Stp.ok : Stp → Prop
  | .low => True
  | .swap a b => a ∈ CH ∧ b ∈ CH
  | .drop cs => 1 ≤ cs.length ∧ cs.length ≤ 10 ∧ cs.Nodup ∧ ∀ c ∈ cs, c ∈ CH
  | .lead a => a ∈ CH
  | .once a => a ∈ CH
  | .cut n => 1 ≤ n ∧ n ≤ 9
/-- a text that the document allows -/
def Good (l : List Nat) : Prop := (∀ c ∈ l, c ∈ CH) ∧ l.length ≤ 60
theorem onceN_mem {a : Nat} {l : List Nat} : ∀ {i : Nat}, i ≤ l.length → ∀ c ∈ onceN a l i, c ∈ l
  | 0, _, c, h => nomatch h
  | i + 1, hi, c, h => by
    rw [onceN] at h
    rcases List.mem_append.mp h with h | h
    · exact onceN_mem (Nat.le_of_succ_le hi) c h
    · split at h
      · rw [List.mem_singleton.mp h]
        have e : l.getD i 0 = l[i] := by
          have e2 : l[i]? = some l[i] := List.getElem?_eq_getElem (by omega)
          simp only [List.getD, e2, Option.getD_some]
        rw [e]; exact List.getElem_mem _
      · exact nomatch h
theorem onceN_len {a : Nat} {l : List Nat} : ∀ i : Nat, (onceN a l i).length ≤ i
  | 0 => Nat.le_refl _
  | i + 1 => by
    rw [onceN, List.length_append]
    have := onceN_len (a := a) (l := l) i
    split <;> simp <;> omega
/-- the last one that is kept -/
theorem onceN_last {a : Nat} {l : List Nat} : ∀ i : Nat, (onceN a l i).getLast? = some a ↔ (0 < i ∧ l.getD (i - 1) 0 = a)
  | 0 => by simp [onceN]
  | i + 1 => by
    have ih := onceN_last (a := a) (l := l) i
    rw [onceN]
    by_cases k : keepAt a l i = true
    · rw [if_pos k, List.getLast?_concat]
      simp
    · rw [if_neg k, List.append_nil, ih]
      have k' : keepAt a l i = false := by simpa using k
      simp only [keepAt, Bool.or_eq_false_iff, decide_eq_false_iff_not, Decidable.not_not] at k'
      obtain ⟨⟨h1, h2⟩, h3⟩ := k'
      simp only [Nat.add_sub_cancel]
      exact ⟨fun _ => ⟨by omega, h1⟩, fun _ => ⟨by omega, h3⟩⟩
/-- no two of a side by side -/
def NoAdj (a : Nat) (m : List Nat) : Prop := ∀ i, 0 < i → i < m.length → ¬ (m.getD i 0 = a ∧ m.getD (i - 1) 0 = a)
theorem noAdj_snoc {a c : Nat} {m : List Nat} (h : NoAdj a m) (hc : ¬ (c = a ∧ m.getLast? = some a)) : NoAdj a (m ++ [c]) := by
  intro i h0 hi
  rw [List.length_append] at hi
  simp at hi
  by_cases e : i = m.length
  · subst e
    rintro ⟨h1, h2⟩
    have e1 : (m ++ [c]).getD m.length 0 = c := by simp [List.getD]
    have e2 : (m ++ [c]).getD (m.length - 1) 0 = m.getD (m.length - 1) 0 := by
      simp only [List.getD, List.getElem?_append_left (show m.length - 1 < m.length by omega)]
    rw [e1] at h1
    rw [e2] at h2
    refine hc ⟨h1, ?_⟩
    rw [List.getLast?_eq_getElem?]
    have : m[m.length - 1]? = some m[m.length - 1] := List.getElem?_eq_getElem (by omega)
    rw [this]
    simp only [List.getD, this, Option.getD_some] at h2
    rw [h2]
  · have hi' : i < m.length := by omega
    have e1 : (m ++ [c]).getD i 0 = m.getD i 0 := by simp only [List.getD, List.getElem?_append_left hi']
    have e2 : (m ++ [c]).getD (i - 1) 0 = m.getD (i - 1) 0 := by simp only [List.getD, List.getElem?_append_left (show i - 1 < m.length by omega)]
    rw [e1, e2]
    exact h i h0 hi'
theorem onceN_noAdj {a : Nat} {l : List Nat} : ∀ i : Nat, NoAdj a (onceN a l i)
  | 0 => fun i _ hi => by simp [onceN] at hi
  | i + 1 => by
    rw [onceN]
    by_cases k : keepAt a l i = true
    · rw [if_pos k]
      refine noAdj_snoc (onceN_noAdj i) ?_
      rintro ⟨h1, h2⟩
      rw [onceN_last] at h2
      simp only [keepAt, Bool.or_eq_true, decide_eq_true_eq] at k
      rcases k with (k | k) | k
      · exact k h1
      · omega
      · exact k h2.2
    · rw [if_neg k, List.append_nil]
      exact onceN_noAdj i
theorem onceN_id {a : Nat} {m : List Nat} (h : NoAdj a m) : ∀ i : Nat, i ≤ m.length → onceN a m i = m.take i
  | 0, _ => by simp [onceN]
  | i + 1, hi => by
    have k : keepAt a m i = true := by
      simp only [keepAt, Bool.or_eq_true, decide_eq_true_eq]
      by_cases h0 : i = 0
      · exact .inl (.inr h0)
      · by_cases h1 : m.getD i 0 = a
        · exact .inr fun h2 => h i (by omega) hi ⟨h1, h2⟩
        · exact .inl (.inl h1)
    rw [onceN, onceN_id h i (by omega), if_pos k, List.take_succ]
    have : m[i]? = some m[i] := List.getElem?_eq_getElem hi
    simp only [List.getD, this, Option.getD_some, Option.toList_some]
theorem onceL_idem (a : Nat) (l : List Nat) : onceL a (onceL a l) = onceL a l := by
  show onceN a (onceL a l) (onceL a l).length = _
  have h := onceN_id (m := onceL a l) (onceN_noAdj _) _ (Nat.le_refl _)
  rw [h, List.take_length]
theorem lowC_lowC (c : Nat) : lowC (lowC c) = lowC c := by
  unfold lowC
  split
  · split <;> omega
  · rfl
theorem dropWhile_idem (p : Nat → Bool) : ∀ l : List Nat, (l.dropWhile p).dropWhile p = l.dropWhile p
  | [] => rfl
  | c :: r => by
    by_cases h : p c = true
    · rw [List.dropWhile_cons_of_pos h]; exact dropWhile_idem p r
    · rw [List.dropWhile_cons_of_neg h, List.dropWhile_cons_of_neg h]
/-- a step changes nothing of what it made -/
theorem mk_idem (st : Stp) (l : List Nat) : mk st (mk st l) = mk st l := by
  cases st with
  | low => show (l.map lowC).map lowC = l.map lowC; rw [List.map_map]; exact List.map_congr_left fun c _ => lowC_lowC c
  | swap a b =>
    show (l.map (swapC a b)).map (swapC a b) = l.map (swapC a b)
    rw [List.map_map]
    refine List.map_congr_left fun c _ => ?_
    show swapC a b (swapC a b c) = swapC a b c
    unfold swapC
    by_cases h : c = a
    · simp [h]
    · simp [h]
  | drop cs => show (l.filter _).filter _ = l.filter _; rw [List.filter_filter]; exact List.filter_congr fun c _ => Bool.and_self _
  | lead a => exact dropWhile_idem _ l
  | once a => exact onceL_idem a l
  | cut n => show (l.take n).take n = l.take n; rw [List.take_take, Nat.min_self]
theorem mk_len (st : Stp) (l : List Nat) : (mk st l).length ≤ l.length := by
  cases st with
  | low => exact Nat.le_of_eq (List.length_map _)
  | swap a b => exact Nat.le_of_eq (List.length_map _)
  | drop cs => exact List.length_filter_le _ _
  | lead a => exact (List.dropWhile_suffix _).length_le
  | once a => exact onceN_len _
  | cut n => exact List.length_take_le' _ _
theorem low_CH : ∀ c ∈ CH, lowC c ∈ CH := by decide
theorem mk_CH {st : Stp} {l : List Nat} (hs : st.ok) (h : ∀ c ∈ l, c ∈ CH) : ∀ c ∈ mk st l, c ∈ CH := by
  intro c hc
  cases st with
  | low => obtain ⟨d, hd, rfl⟩ := List.mem_map.mp hc; exact low_CH d (h d hd)
  | swap a b =>
    obtain ⟨d, hd, rfl⟩ := List.mem_map.mp hc
    unfold swapC
    split
    · exact hs.2
    · exact h d hd
  | drop cs => exact h c (List.mem_filter.mp hc).1
  | lead a => exact h c ((List.dropWhile_suffix _).subset hc)
  | once a => exact h c (onceN_mem (Nat.le_refl _) c hc)
  | cut n => exact h c (List.mem_of_mem_take hc)
theorem mk_good {st : Stp} {l : List Nat} (hs : st.ok) (h : Good l) : Good (mk st l) := ⟨mk_CH hs h.1, Nat.le_trans (mk_len st l) h.2⟩
theorem CH_lt : ∀ c ∈ CH, c < 128 := by decide
theorem CH_len : CH.length = 68 := rfl
theorem CH_nodup : CH.Nodup := by decide
end Pd

namespace Pd
open PySem PySem.Spec PyProof.Rows L2
/-! ### the operators of an own class: +, in, not in -/
section
variable {X : Cx} {CX : CXT} {C g : Addr} {n : Nat} {sp : Sp} {E : XK}
def rAddOwn (C : Addr) (sp : Sp) (E : XK) : R2 := fun x y H Q => ∃ a dx fs b dy gs, x = .ref a ∧ y = .ref b ∧ H a = some (.ins C dx fs) ∧ H b = some (.ins C dy gs) ∧ sp [.ref a, .ref b] H Q E
theorem op_addOwn (hc : PySem.W.selfFirst X.K C = true) (hs : PySem.W.findIn X.K (.ref C) "__add__" = some (some (.ref g))) (hf : PySem.W.isFn X.K (.ref g) = true) (F : FnR X.prog X.w X.K X.mg X.base CX n g sp) (hr : Room n X.A) (hx : Passes CX X E) :
    OpR X (binaryOp .Add) (rAddOwn C sp E) := by
  intro pins s σ H x y v u Q I rx ry h
  obtain ⟨a, dx, fs, b, dy, gs, rfl, rfl, ha, hb, q⟩ := h
  cases (show v = Value.ref a from rx)
  cases (show u = Value.ref b from ry)
  obtain ⟨mA, J, _⟩ := ins_get I.hok ha
  obtain ⟨mB, J', _⟩ := ins_get I.hok hb
  obtain ⟨od, J, _⟩ := J.look
  obtain ⟨od', J', _⟩ := J'.look
  obtain ⟨m, hF⟩ := I.fr
  refine PySem.W.binop_K (op := .Add) hF I.ok.mod.kin J J'.type hc hs hf ?_
  refine wpAny_mono (wpAny_call (run_fnR (us := [.ref a, .ref b]) (vs := [.ref a, .ref b]) F hr hx I (.cons rfl (.cons rfl .nil)) q)) (fun w s' z => ?_) fun _ _ x => x
  obtain ⟨z', H', I', rz, qz⟩ := z
  exact SlX.cmpback rz ⟨z', H', I', rz, qz⟩
def rInOwn (C : Addr) (k : Bool → Bool) (sp : Sp) (E : XK) : R2 := fun x y H Q => ∃ a dx fs, y = .ref a ∧ H a = some (.ins C dx fs) ∧ sp [.ref a, x] H (fun z H' => ∃ b, z = .bl b ∧ Q (.bl (k b)) H') E
theorem op_inOwn (hs : PySem.W.findIn X.K (.ref C) "__contains__" = some (some (.ref g))) (hf : PySem.W.isFn X.K (.ref g) = true) (F : FnR X.prog X.w X.K X.mg X.base CX n g sp) (hr : Room n X.A) (hx : Passes CX X E) :
    OpR X (compareOp .In) (rInOwn C (fun b => b) sp E) := by
  intro pins s σ H x y v u Q I rx ry h
  obtain ⟨a, dx, fs, rfl, ha, q⟩ := h
  cases (show u = Value.ref a from ry)
  obtain ⟨mA, J, _⟩ := ins_get I.hok ha
  obtain ⟨od, J, _⟩ := J.look
  obtain ⟨m, hF⟩ := I.fr
  refine PySem.W.in_K hF I.ok.mod.kin J hs hf ?_
  refine wpAny_mono (wpAny_call (run_fnR (us := [.ref a, v]) (vs := [.ref a, x]) F hr hx I (.cons rfl (.cons rx .nil)) q)) (fun w s' z => ?_) fun _ _ x => x
  obtain ⟨z', H', I', rz, b, rfl, qz⟩ := z
  cases (show w = Value.bool b from rz)
  exact wpAny_truthy_bool ⟨.bl b, H', I', rfl, qz⟩
theorem op_notInOwn (hs : PySem.W.findIn X.K (.ref C) "__contains__" = some (some (.ref g))) (hf : PySem.W.isFn X.K (.ref g) = true) (F : FnR X.prog X.w X.K X.mg X.base CX n g sp) (hr : Room n X.A) (hx : Passes CX X E) :
    OpR X (compareOp .NotIn) (rInOwn C (fun b => !b) sp E) := by
  intro pins s σ H x y v u Q I rx ry h
  obtain ⟨a, dx, fs, rfl, ha, q⟩ := h
  cases (show u = Value.ref a from ry)
  obtain ⟨mA, J, _⟩ := ins_get I.hok ha
  obtain ⟨od, J, _⟩ := J.look
  obtain ⟨m, hF⟩ := I.fr
  refine PySem.W.notIn_K hF I.ok.mod.kin J hs hf ?_
  refine wpAny_mono (wpAny_call (run_fnR (us := [.ref a, v]) (vs := [.ref a, x]) F hr hx I (.cons rfl (.cons rx .nil)) q)) (fun w s' z => ?_) fun _ _ x => x
  obtain ⟨z', H', I', rz, b, rfl, qz⟩ := z
  cases (show w = Value.bool b from rz)
  exact wpAny_truthy_bool ⟨.bl (!b), H', I', rfl, qz⟩
end
end Pd

namespace Pd
open PySem PySem.Spec PyProof.Rows L2
/-! ### an instance called where it may raise, in a try -/
def InsP (H : Hp) (a C : Addr) : Prop := (∃ dx vs, SlX.Slt H a C dx vs) ∨ ∃ dx fs, H a = some (.ins C dx fs)
def tCallOS (C : Addr) (sp : Sp) (E : L2.St → XK) (tf : TE) (t : TA) : TE := fun σ H Q => tf σ H fun y H1 => ∃ a, y = V.ref a ∧ t σ H1 fun vs H2 => InsP H2 a C ∧ sp (V.ref a :: vs) H2 Q (E σ)
theorem pe_callOS {X : Cx} {CX : CXT} {k : Nat} {C g : Addr} {sp : Sp} {E : L2.St → XK} {fe e : Expr} {es : List Expr} {tf : TE} {t : TA} {pos : Pos} (hf : PE X fe tf) (c : StX.CallO X.K C g) (F : FnR X.prog X.w X.K X.mg X.base CX k g sp) (hr : Room k X.A) (hx : ∀ σ, PassesAt CX X σ (E σ)) (ha : PA X (e :: es) t)
    (ht : eval (.Call fe (e :: es) [] pos) X.env = (do callWith pos (← eval fe X.env) [] (backTo pos (starEach (e :: es) X.env)) (backToKw pos (keywordEach [] X.env))) := by rfl)
    (he : starEach (e :: es) X.env = (false, eval e X.env) :: starEach es X.env := by rfl) (hpl : (backTo pos (starEach es X.env)).any (·.1) = false := by rfl) : PE X (.Call fe (e :: es) [] pos) (tCallOS C sp E tf t) := by
  constructor
  intro pins s σ H Q I h
  refine Call_ (thn (hf.run pins s σ H _ I h) fun u s1 ⟨y, H1, I1, ry, a, ey, q⟩ => ?_) ht
  subst ey
  obtain rfl : u = Value.ref a := ry
  refine StX.callO_with (thn (ha.run pos pins s1 σ H1 _ I1 q) fun us s2 ⟨vs, H2, I2, r, hi, q2⟩ => ?_) he hpl
  obtain ⟨ox, od, J, hd⟩ := StX.insC_at I2 (show StX.InsC X H2 a C from hi)
  refine ⟨⟨C, ox, od, J, hd⟩, wpAny_call (PySem.W.kco_code I2.kIn J hd c.at_ c.fn c.fi (codeAny_mono (F X.A X.stack s2 H2 (.ref a :: us) (.ref a :: vs) Q (E σ) hr I2.env0 (.cons rfl r) q2) ?_))⟩
  intro r s' hq
  cases r with
  | error e => exact hx σ pins H2 s2 e s' I2 hq
  | ok fl =>
    cases fl with
    | ret u => exact I2.after hq
    | next => exact False.elim hq
    | brk => exact False.elim hq
    | cont => exact False.elim hq
end Pd

namespace Pd
open PySem PySem.Spec PyProof.Rows L2
/-- list(text): some list -/
theorem call_listStr {X : Cx} (hc : X.calm = true) : CallR X (.type "list") (fun xs H Q => ∃ x : Str, xs = [.str x] ∧ x.cps.size ≤ 1000 ∧ ∀ p ys, H p = none → Q (.ref p) (upd H p (.lst ys))) := by
  intro pins s σ H xs us Q I r h
  obtain ⟨x, rfl, hz, q⟩ := h
  obtain ⟨u, rfl, t, rfl⟩ := vals1 r
  refine PySem.call_list_str (hn := by rw [sizeLine_eq]; omega) (I.ok.hd hc) x t fun h' tk acc c hk hS hacc => ?_
  have key : ∃ ys : List V, Vals ys acc.toList ∧ ys.length = x.cps.size := by
    have hsz : acc.size = x.cps.size := hacc.1
    have all : ∀ u ∈ acc.toList, ∃ v : V, RelV v u := fun u hu => by
      obtain ⟨i, hi, e⟩ := List.getElem_of_mem hu
      have hi' : i < acc.size := by simpa using hi
      obtain ⟨c', t', _, e2⟩ := hacc.2 i u (by rw [← e]; simp [hi'])
      exact ⟨.str ⟨#[c']⟩, t', e2⟩
    have mk : ∀ l : List Value, (∀ u ∈ l, ∃ v : V, RelV v u) → ∃ ys : List V, Vals ys l := by
      intro l
      induction l with
      | nil => exact fun _ => ⟨[], .nil⟩
      | cons u l ih =>
        intro h
        obtain ⟨v, hv⟩ := h u (List.mem_cons_self ..)
        obtain ⟨ys, hys⟩ := ih fun w hw => h w (List.mem_cons_of_mem _ hw)
        exact ⟨v :: ys, .cons hv hys⟩
    obtain ⟨ys, hys⟩ := mk _ all
    exact ⟨ys, hys, by rw [hys.length, Array.length_toList, hsz]⟩
  obtain ⟨ys, hys, hl⟩ := key
  have new : H s.heap.objs.size = none := I.hok.fresh (Nat.le_refl _)
  refine ⟨.ref s.heap.objs.size, upd H s.heap.objs.size (.lst ys), I.laid (t' := tk) (fun b o e => hk b o e) (Nat.le_refl _) ?_, rfl, q _ _ new⟩
  exact ⟨by rw [hl, sizeLine_eq]; omega, acc.toList, c, hys, by simpa using hS⟩
end Pd

namespace Pd
open PySem PySem.Spec PyProof.Rows L2 PySem.OEX
/-! ### D.__init__(self, ..) in an own error's __init__, D an own error without one -/
section
variable {X : Cx} {e : Expr} {es : List Expr} {ta : TA} {p1 p2 pos : Pos} {D : Addr} {x : Str}
theorem pe_oeinit {pl : Sem Bool} (hg : Gl X x) (hm : X.mg x = some (.ref D)) (rg : PySem.W.specialIn X.K (.ref D) "__getattribute__" = some (some (.builtin "type.__getattribute__"))) (rd : PySem.W.readsIn X.K D (.type "type") = true)
    (vV : PySem.W.findCls X.K (.ref D) (.type "type") "__init__" = some (.val (.builtin "ValueError.__init__"))) (ha : PA X (e :: es) ta)
    (hc : eval (.Call (.Attribute (.Name x p1) "__init__" p2) (e :: es) [] pos) X.env = (do
      let ov ← eval (.Name x p1) X.env
      standAt p2.atName
      let (f, first) ← holding [ov] (getMethod ov "__init__" pl)
      callWith pos f first (backTo pos (starEach (e :: es) X.env)) (backToKw pos (keywordEach [] X.env))) := by rfl)
    (hd : (x == ("__debug__" : Str)) = false := by decide)
    (he : starEach (e :: es) X.env = (false, eval e X.env) :: starEach es X.env := by rfl) (hpl : (backTo pos (starEach es X.env)).any (·.1) = false := by rfl) :
    PE X (.Call (.Attribute (.Name x p1) "__init__" p2) (e :: es) [] pos) (tVeI X.K ta) := by
  refine ⟨fun pins s σ H Q I h => ?_⟩
  refine PySem.W.methodCall_KW (ld_glob I hg hm ?_ hd) hc
  refine PySem.W.method_cls I.kIn rg (PySem.W.cls_value I.kIn rd vV (by decide +kernel) ?_)
  have I := I.tok (s.toks + 1)
  show wpAny _ _ (callWith pos (Value.builtin "ValueError.__init__") [] (backTo pos (starEach (e :: es) X.env)) []) _ _ _
  refine PyProof.Rows.callWith_method1 (thn (ha.run pos pins _ σ H _ I h) fun us s1 ⟨vs, H1, I1, r1, a, C, ws, ev, hl, T, ea, q⟩ => ?_) he hpl
  subst ev
  cases r1 with
  | @cons _ u0 _ ur ra rw' =>
    obtain rfl : u0 = Value.ref a := ra
    have hlen : ur.length ≤ sizeLine := by
      rw [← Paired.length rw', sizeLine_eq]
      omega
    exact oinit_ok T I1 ea hlen fun s' J => ⟨.non, H1, J, rfl, q⟩
end
end Pd

namespace Pd
open PySem PySem.Spec PyProof.Rows L2
/-! ### len(o) and o[i] of an own class -/
section
variable {X : Cx} {CX : CXT} {C g : Addr} {n : Nat} {sp : Sp} {E : XK}
/-- a def run one deeper -/
theorem run_fnR1 {pins : List (Addr × Obj)} {σ : L2.St} {H : Hp} {s : Shared} {f : Addr} {Q : VK} {us : List Value} {vs : List V} (F : FnR X.prog X.w X.K X.mg X.base CX n f sp) (hr : Room (n + 1) X.A) (hx : Passes CX X E) (I : Inv X pins σ H s) (r : Vals vs us) (h : sp vs H Q E) :
    codeAny (model X.prog X.w) X.A.in1 (.call (.ref f) ⟨us, []⟩) (fun r s' => match r with | .ok (.ret v) => EP X pins σ Q v s' | .ok _ => False | .error e => X.xe e s') s := by
  refine codeAny_mono (F X.A.in1 X.stack s H us vs Q E hr.in1 I.env0.in1 r h) fun r s' hq => ?_
  cases r with
  | error e => exact hx pins σ H s e s' I hq
  | ok fl =>
    cases fl with
    | ret u => exact I.after hq
    | next => exact False.elim hq
    | brk => exact False.elim hq
    | cont => exact False.elim hq
/-- the reading of len(o) -/
def rLenOwn (C : Addr) (sp : Sp) (E : XK) : List V → Hp → VK → Prop := fun xs H Q => ∃ a dx fs, xs = [.ref a] ∧ H a = some (.ins C dx fs) ∧ sp [.ref a] H (fun z H' => ∃ k : Nat, z = .int k ∧ k < 2 ^ 60 ∧ Q (.int k) H') E
theorem call_lenOwn (hs : PySem.W.findIn X.K (.ref C) "__len__" = some (some (.ref g))) (hf : PySem.W.isFn X.K (.ref g) = true) (F : FnR X.prog X.w X.K X.mg X.base CX n g sp) (hr : Room (n + 1) X.A) (hx : Passes CX X E) :
    CallR X (.builtin "len") (rLenOwn C sp E) := by
  intro pins s σ H xs us Q I r h
  obtain ⟨a, dx, fs, rfl, ha, q⟩ := h
  cases r with
  | cons rx rr =>
    cases rr
    cases rx
    obtain ⟨mA, J, _⟩ := ins_get I.hok ha
    obtain ⟨od, J, _⟩ := J.look
    obtain ⟨m, hF⟩ := I.fr
    refine PySem.W.len_K hF I.ok.mod.kin J hs hf ?_
    refine wpAny_mono (wpAny_call (run_fnR1 (us := [.ref a]) (vs := [.ref a]) F hr hx I (.cons rfl .nil) q)) (fun w s' z => ?_) fun _ _ x => x
    obtain ⟨z', H', I', rz, k, rfl, hk, qz⟩ := z
    obtain ⟨t, e⟩ : ∃ t, w = Value.int (k : Nat) t := rz
    subst e
    exact ⟨⟨by omega, by omega⟩, .int k, H', I'.tok _, ⟨_, rfl⟩, qz⟩
/-- the reading of o[i] -/
def rIxOwn (C : Addr) (sp : Sp) (E : XK) : R2 := fun x y H Q => ∃ a dx fs, x = .ref a ∧ H a = some (.ins C dx fs) ∧ sp [.ref a, y] H Q E
theorem pe_ixOwn (hs : PySem.W.findIn X.K (.ref C) "__getitem__" = some (some (.ref g))) (hf : PySem.W.isFn X.K (.ref g) = true) (hfi : PySem.W.fnIn X.K g = true) (F : FnR X.prog X.w X.K X.mg X.base CX n g sp) (hr : Room (n + 1) X.A) (hx : Passes CX X E) {a b : Expr} {ta tb : TE} {pos : Pos} (ha : PE X a ta) (hb : PE X b tb)
    (hsl : ∀ o i, subscripted b true o i = runValue (.builtin "lifetime.subscript" ⟨[o, i], []⟩) := by intro o i; with_unfolding_all rfl) : PE X (.Subscript a b pos) (tOp (rIxOwn C sp E) ta tb) := by
  refine ⟨fun pins s σ H Q I h => ?_⟩
  refine Subscript_ (binT ha hb I h fun v u s x y H I rx ry h => ?_)
  obtain ⟨a, dx, fs, rfl, ha, q⟩ := h
  cases (show v = Value.ref a from rx)
  obtain ⟨mA, J, _⟩ := ins_get I.hok ha
  obtain ⟨od, J, _⟩ := J.look
  obtain ⟨m, hF⟩ := I.fr
  refine PySem.W.sub_K hF I.ok.mod.kin J hs hfi hf ?_ (hsl _ _)
  exact wpAny_call (run_fnR1 (us := [.ref a, u]) (vs := [.ref a, y]) F hr hx I (.cons rfl (.cons ry .nil)) q)
end
end Pd

set_option maxHeartbeats 2000000
namespace Pd
open PySem PySem.Spec PyProof.Rows L2
/-! ### rules that hold where at least n tokens are out -/
section
variable {α : Type} {M : Model} {A : Around} {E : Value → Shared → Prop} {s : Shared}
theorem thk {t : Sem α} {Q Q' : α → Shared → Prop} {n : Nat} (l : n ≤ s.toks) (h : wpAny M A t Q E s) (k : ∀ a s', n ≤ s'.toks → Q a s' → Q' a s') : wpAny M A t Q' E s :=
  thn (tkE l h) fun a s' z => k a s' z.1 z.2
end
structure PEn (n : Nat) (X : Cx) (e : Expr) (t : TE) : Prop where
  run : ∀ (pins : List (Addr × Obj)) (s : Shared) (σ : L2.St) (H : Hp) (Q : VK), n ≤ s.toks → Inv X pins σ H s → t σ H Q → wpAny (model X.prog X.w) X.A (eval e X.env) (EP X pins σ Q) X.xe s
structure PTn (n : Nat) (X : Cx) (e : Expr) (t : TT) : Prop where
  run : ∀ (pins : List (Addr × Obj)) (s : Shared) (σ : L2.St) (H : Hp) (Q : Bool → Hp → Prop), n ≤ s.toks → Inv X pins σ H s → t σ H Q → wpAny (model X.prog X.w) X.A (isTrue e X.env (eval e X.env)) (TP X pins σ Q) X.xe s
structure PAn (n : Nat) (X : Cx) (es : List Expr) (t : TA) : Prop where
  run : ∀ (pos : Pos) (pins : List (Addr × Obj)) (s : Shared) (σ : L2.St) (H : Hp) (Q : List V → Hp → Prop), n ≤ s.toks → Inv X pins σ H s → t σ H Q → wpAny (model X.prog X.w) X.A (spliced (backTo pos (starEach es X.env))) (AP X pins σ Q) X.xe s
structure PSn (n : Nat) (X : Cx) (st : Stmt) (t : TS) : Prop where
  run : ∀ (pins : List (Addr × Obj)) (s : Shared) (σ : L2.St) (H : Hp) (D : Ends), n ≤ s.toks → Inv X pins σ H s → t D σ H → wpAny (model X.prog X.w) X.A (exec st X.env) (SP X pins D) X.xe s
structure PSsn (n : Nat) (X : Cx) (sts : List Stmt) (t : TS) : Prop where
  run : ∀ (pins : List (Addr × Obj)) (s : Shared) (σ : L2.St) (H : Hp) (D : Ends), n ≤ s.toks → Inv X pins σ H s → t D σ H → wpAny (model X.prog X.w) X.A (execs sts X.env) (SP X pins D) X.xe s
/-- a def that may be called where n tokens are out -/
def FnN (n : Nat) (P : Program) (w : World) (K : PySem.W.Frag) (mg : Str → Option Value) (base : Heap) (k : Nat) (f : Addr) (sp : Sp) : Prop :=
  ∀ (A : Around) (outer : List Env) (s : Shared) (H : Hp) (us : List Value) (vs : List V) (Q : VK) (E : XK), n ≤ s.toks → Room k A → Env0 P w K mg base A outer s H → Vals vs us → sp vs H Q E →
    codeAny (model P w) A (.call (.ref f) ⟨us, []⟩) (CR CX0 outer P w H s Q E) s
section
variable {X : Cx} {n : Nat} {e a b c : Expr} {es : List Expr} {te ta tb : TE} {tl : TA} {t u v : TS} {tt tu : TT} {st : Stmt} {rest : List Stmt} {pos p : Pos}
theorem pen (h : PE X e te) : PEn n X e te := ⟨fun pins s σ H Q _ I q => h.run pins s σ H Q I q⟩
theorem ptn (h : PT X e tt) : PTn n X e tt := ⟨fun pins s σ H Q _ I q => h.run pins s σ H Q I q⟩
theorem pan (h : PA X es tl) : PAn n X es tl := ⟨fun pos pins s σ H Q _ I q => h.run pos pins s σ H Q I q⟩
theorem psn (h : PS X st t) : PSn n X st t := ⟨fun pins s σ H D _ I q => h.run pins s σ H D I q⟩
theorem pssn (h : PSs X rest t) : PSsn n X rest t := ⟨fun pins s σ H D _ I q => h.run pins s σ H D I q⟩
theorem PSsn.toT (h : PSsn 1 X rest t) : PSsT X rest t := fun pins s σ H D l I q => h.run pins s σ H D l I q
theorem PEn.mono {m : Nat} (h : PEn n X e te) (l : n ≤ m) : PEn m X e te := ⟨fun pins s σ H Q k I q => h.run pins s σ H Q (Nat.le_trans l k) I q⟩
/-! #### statements -/
theorem pssn_cons (h1 : PSn n X st t) (h2 : PSsn n X rest u) : PSsn n X (st :: rest) (tSeq t u) := by
  constructor
  intro pins s σ H D l I h
  refine wpAny_execs_cons (thk l (h1.run pins s σ H { D with nx := u D } l I h) fun f s1 l1 q => ?_)
  cases f with
  | next =>
    obtain ⟨σ', H', J, q'⟩ := q
    exact h2.run pins s1 σ' H' D l1 J q'
  | ret w => exact q
  | brk => exact q
  | cont => exact q
theorem pssn_one (h1 : PSn n X st t) : PSsn n X [st] t := by
  constructor
  intro pins s σ H D l I h
  refine wpAny_execs_cons (thn (h1.run pins s σ H D l I h) fun f s1 q => ?_)
  cases f with
  | next => exact wpAny_execs_nil q
  | ret w => exact q
  | brk => exact q
  | cont => exact q
theorem psn_if {s1 s2 : List Stmt} (hc : PTn n X c tt) (ha : PSsn n X s1 t) (hb : PSsn n X s2 u) : PSn n X (.If c s1 s2 pos) (tIfS tt t u) := by
  constructor
  intro pins s σ H D l I h
  refine wpAny_If (thk l (hc.run pins s σ H _ l I h) fun d s' l' ⟨H1, I1, q1⟩ => ?_)
  cases d with
  | true => exact ha.run pins s' σ H1 D l' I1 q1
  | false => exact hb.run pins s' σ H1 D l' I1 q1
theorem psn_ret (he : PEn n X e te) : PSn n X (.Return (some e) pos) (tRet te) := by
  constructor
  intro pins s σ H D l I h
  exact wpAny_Return_some (thn (he.run pins s σ H _ l I h) fun w s1 ⟨x, H1, I1, r1, q1⟩ => ⟨x, σ, H1, I1, r1, q1⟩)
theorem psn_expr (he : PEn n X e te) (hs : swapsWith e none pos.line X.env = pure false := by rfl) : PSn n X (.Expr e pos) (tDrop te) := by
  constructor
  intro pins s σ H D l I h
  exact wpAny_Expr_any (thn (he.run pins s σ H _ l I h) fun w s1 ⟨x, H1, I1, r1, q1⟩ => ⟨σ, H1, I1, q1⟩) I.quiet hs
theorem psn_set {i : Nat} {x : Str} {pos' : Pos} (hN : X.N.Nodup) (hi : X.N[i]? = some x) (hx : Loc X.env.scope x) (he : PEn n X e te) (hs : swapsWith e (some (.Name x pos')) pos.line X.env = pure false := by rfl)
    (hf : X.fn x = true ∨ X.env.scope.names.lookup x = some .local := by first | exact .inl rfl | exact .inr rfl | assumption) : PSn n X (.Assign [.Name x pos'] e pos) (tAsg te (gName i)) := by
  constructor
  intro pins s σ H D l I h
  refine wpAny_Assign_Name (thn (he.run pins s σ H _ l I h) fun w s1 ⟨y, H1, I1, r1, q1⟩ => ?_) hs
  exact store_ok I1 hN hi hx r1 (fun s2 I2 => ⟨_, H1, I2, q1⟩) hf
/-! #### arguments, calls -/
theorem pan_cons (ha : PEn n X e te) (hr : PAn n X es tl) (hs : starEach (e :: es) X.env = (false, eval e X.env) :: starEach es X.env := by rfl) : PAn n X (e :: es) (tCons te tl) := by
  constructor
  intro pos pins s σ H Q l I h
  rw [hs]
  show wpAny _ _ (spliced ((false, eval e X.env) :: backTo pos (starEach es X.env))) _ _ s
  refine Calls.spliced_cons (thk l (ha.run pins s σ H _ l I h) fun w s1 l1 ⟨x, H1, I1, r1, q1⟩ => ?_)
  exact thn (hr.run pos pins s1 σ H1 _ l1 I1 q1) fun us s2 ⟨xs, H2, I2, r2, q2⟩ => ⟨x :: xs, H2, I2, .cons r1 r2, q2⟩
theorem pan_nil : PAn n X [] tNil := pan pa_nil
section
variable {k : Nat} {f : Addr} {sp : Sp} {E : XK} {x : Str}
theorem run_fnN {pins : List (Addr × Obj)} {σ : L2.St} {H : Hp} {s : Shared} {us : List Value} {vs : List V} {Q : VK} (F : FnN n X.prog X.w X.K X.mg X.base k f sp) (hr : Room k X.A) (l : n ≤ s.toks) (I : Inv X pins σ H s) (r : Vals vs us) (h : sp vs H Q E) :
    codeAny (model X.prog X.w) X.A (.call (.ref f) ⟨us, []⟩) (fun r s' => match r with | .ok (.ret v) => EP X pins σ Q v s' | .ok _ => False | .error e => X.xe e s') s := by
  refine codeAny_mono (F X.A X.stack s H us vs Q E l hr I.env0 r h) fun r s' hq => ?_
  cases r with
  | error e => exact pass0 pins σ H s e s' I hq
  | ok fl =>
    cases fl with
    | ret w => exact I.after hq
    | next => exact False.elim hq
    | brk => exact False.elim hq
    | cont => exact False.elim hq
theorem pen_callN (F : FnN n X.prog X.w X.K X.mg X.base k f sp) (hr : Room k X.A) (hg : Gl X x) (hm : X.mg x = some (.ref f)) (hk : PySem.W.keepIn X.K (.ref f) = true)
    (ha : PAn n X (e :: es) tl) (hdb : (x == ("__debug__" : Str)) = false := by decide) (he : starEach (e :: es) X.env = (false, eval e X.env) :: starEach es X.env := by rfl) (hpl : (backTo pos (starEach es X.env)).any (·.1) = false := by rfl) :
    PEn n X (.Call (.Name x p) (e :: es) [] pos) (tCall sp [] E tl) := by
  constructor
  intro pins s σ H Q l I h
  refine wpAny_Call_Name_kw (ld_glob I hg hm ?_ hdb)
  refine PySem.W.callWith_K (h₀ := X.base) I.ok.mod.kin hk (thk l (ha.run pos pins s σ H _ l I h) ?_) he hpl
  rintro us s1 l1 ⟨vs, H1, I1, r, q⟩
  rw [List.append_nil] at q
  exact ⟨I1.kIn, wpAny_call (run_fnN F hr l1 I1 r q)⟩
/-- a plain def, its arguments with n tokens out -/
theorem pen_call {CX : CXT} (F : FnR X.prog X.w X.K X.mg X.base CX k f sp) (hr : Room k X.A) (hg : Gl X x) (hm : X.mg x = some (.ref f)) (hk : PySem.W.keepIn X.K (.ref f) = true) (hx : Passes CX X E)
    (ha : PAn n X (e :: es) tl) (hdb : (x == ("__debug__" : Str)) = false := by decide) (he : starEach (e :: es) X.env = (false, eval e X.env) :: starEach es X.env := by rfl) (hpl : (backTo pos (starEach es X.env)).any (·.1) = false := by rfl) :
    PEn n X (.Call (.Name x p) (e :: es) [] pos) (tCall sp [] E tl) := by
  constructor
  intro pins s σ H Q l I h
  refine wpAny_Call_Name_kw (ld_glob I hg hm ?_ hdb)
  refine PySem.W.callWith_K (h₀ := X.base) I.ok.mod.kin hk (thn (ha.run pos pins s σ H _ l I h) ?_) he hpl
  rintro us s1 ⟨vs, H1, I1, r, q⟩
  rw [List.append_nil] at q
  exact ⟨I1.kIn, wpAny_call (run_fnR F hr hx I1 r q)⟩
end
/-! #### operators, tests -/
theorem pen_op {op : Operator} {r : R2} (ho : OpR X (binaryOp op) r) (ha : PEn n X a ta) (hb : PEn n X b tb) : PEn n X (.BinOp a op b pos) (tOp r ta tb) := by
  constructor
  intro pins s σ H Q l I h
  refine wpAny_BinOp (thk l (ha.run pins s σ H _ l I h) fun w s1 l1 ⟨x, H1, I1, r1, q1⟩ => ?_)
  exact thn (hb.run pins s1 σ H1 _ l1 I1 q1) fun w2 s2 ⟨y, H2, I2, r2, q2⟩ => ho pins s2 σ H2 x y w w2 Q I2 r1 r2 q2
theorem pen_cmpR {op : CmpOp} {r : R2} (ho : OpR X (compareOp op) r) (ha : PEn n X a ta) (hb : PEn n X b tb) (hm : behindInMarks op b = false) : PEn n X (.Compare a [op] [b] pos) (tOp r ta tb) := by
  constructor
  intro pins s σ H Q l I h
  refine wpAny_Compare1 (thk l (ha.run pins s σ H _ l I h) fun w s1 l1 ⟨x, H1, I1, r1, q1⟩ => ?_) hm
  exact thn (hb.run pins s1 σ H1 _ l1 I1 q1) fun w2 s2 ⟨y, H2, I2, r2, q2⟩ => ho pins s2 σ H2 x y w w2 Q I2 r1 r2 q2
theorem ptn_val (h : PEn n X e te) (he : ∀ whole, isTrue e X.env whole = (do let v ← whole; standAt e.pos; holding [v] (truthy v)) := by intro _; rfl) : PTn n X e (tB te) := by
  constructor
  intro pins s σ H Q l I hw
  refine isTrue_plain (thn (h.run pins s σ H _ l I hw) fun w s1 ⟨x, H1, I1, r1, q1⟩ => ?_) (he _)
  obtain ⟨d, rfl, q⟩ := q1
  cases r1
  exact wpAny_truthy_bool ⟨H1, I1, q⟩
theorem ptn_not (ha : PTn n X a tt) : PTn n X (.UnaryOp .Not a pos) (tNot tt) := by
  constructor
  intro pins s σ H Q l I h
  exact isTrue_not (ha.run pins s σ H (fun c H1 => Q (!c) H1) l I h)
/-- a method of texts, its argument with n tokens out -/
theorem pen_m1 {id : String} {name : Str} {apos : Pos} {r : V → List V → Hp → VK → Prop} (slot : Slot "str" name id) (ty : typeOf (.builtin id) = pure (.type "method_descriptor")) (rule : MtR X id r) (ho : PEn n X a ta) (he : PEn n X e te)
    (hs : starEach [e] X.env = [(false, eval e X.env)] := by rfl) (hbase : attributeBase a name X.env (eval a X.env) = eval a X.env := by rfl) (hline : (apos.endLine == pos.line) = true := by rfl) :
    PEn n X (.Call (.Attribute a name apos) [e] [] pos) (tM1 r ta te) := by
  constructor
  intro pins s σ H Q l I h
  refine PySem.Call_method1 hbase hs hline (thk l (ho.run pins s σ H _ l I h) ?_)
  rintro v s1 l1 ⟨x, H1, I1, r1, ⟨z, rfl⟩, q1⟩
  obtain ⟨t, rfl⟩ := _root_.id r1
  refine ⟨"str", _, F.plainAttrs_str, slot, ty, typeIs_str _ _ _, (fun _ e => nomatch e), Calls.callWith_builtin rfl (Calls.evalArgs_plain (Calls.spliced_cons ?_))⟩
  exact thn (he.run pins s1 σ H1 _ l1 I1 q1) fun w s2 ⟨y, H2, I2, r2, q2⟩ => Calls.spliced_nil (rule pins s2 σ H2 _ [y] _ [w] Q I2 r1 (.cons r2 .nil) q2)
/-- written texts replaced, a token out -/
theorem pen_replC {y z : Str} {j k : Nat} {c0 c1 apos : Pos} (hn : 1 ≤ n) (ho : PE X a ta) (hyz : (y == z) = false := by decide)
    (hst : starEach [.Constant (.str y) j c0, .Constant (.str z) k c1] X.env = [(false, eval (.Constant (.str y) j c0) X.env), (false, eval (.Constant (.str z) k c1) X.env)] := by rfl)
    (hbase : attributeBase a "replace" X.env (eval a X.env) = eval a X.env := by rfl) (hline : (apos.endLine == pos.line) = true := by rfl) :
    PEn n X (.Call (.Attribute a "replace" apos) [.Constant (.str y) j c0, .Constant (.str z) k c1] [] pos) (CwR.tReplC ta y z) :=
  ⟨fun pins s σ H Q l I h => CwR.pet_replC (j := j) (k := k) ho hyz hst hbase hline pins s σ H Q (Nat.le_trans hn l) I h⟩
end
end Pd

set_option maxHeartbeats 4000000
namespace Pd
open PySem PySem.Spec PyProof.Rows L2
/-! ### a comprehension, n tokens out -/
set_option maxHeartbeats 4000000 in
theorem pen_lc {n : Nat} {X : Cx} {elt tg iter : Expr} {ifs : List Expr} {scope : Scope} {own : List (Str × Nat)} {pos : Pos} {wi : TI} {g : TG} {tt : TT} {te : TE} (hc : X.calm = true) (hN : X.N.Nodup) (hi : PI X tg iter wi) (ok : BlkOk X.N X.env.scope scope own)
    (hg : ∀ (s : Shared) (H : Hp) (C : Addr) (cl : List (Str × Addr)) (fp : List Addr), PG (X.blk s H scope (compEnvC scope cl C X.env) fp) tg g)
    (ht : ∀ (s : Shared) (H : Hp) (C : Addr) (cl : List (Str × Addr)) (fp : List Addr), PTs (X.blk s H scope (compEnvC scope cl C X.env) fp) ifs tt)
    (he : ∀ (s : Shared) (H : Hp) (C : Addr) (cl : List (Str × Addr)) (fp : List Addr), PEn n (X.blk s H scope (compEnvC scope cl C X.env) fp) elt te) (hs : ∀ x, foldedSetIterable iter X.env x = pure x := by intro _; rfl) :
    PEn n X (.ListComp elt [⟨tg, iter, ifs, 0⟩] scope pos) (tLc wi g tt te (own.map (·.2))) := by
  constructor
  intro pins s σ H Q l0 I h
  rw [eval_ListComp]
  have hf : ∀ y ∈ scope.names, y.2 = .free → ∃ c, X.env.cells.lookup y.1 = some c := by
    intro y hy e
    rcases ok.free y hy e with k | k
    · exact I.ok.has _ (.inl k)
    · exact I.ok.has _ (.inr k)
  refine wpAny_comprehension_free (use := none) rfl hs (closure_ok hf) ok.kind (fun y hy e => by rw [ok.uniq y hy, e]) (thk l0 (hi.run pins s σ H _ I h) ?_)
  intro xv s1 l1 hx
  refine thk l1 hx ?_
  rintro itv s2 l2 ⟨it, fp, tn, J, H2, rfl, I2, T, st2, f2, q⟩
  refine wpAny_newObj_type (newEnv_comp ?_) (by show 0 ≤ sizeLine; decide)
  generalize hD : s2.heap.objs.size = D
  have dn : H2 D = none := I2.hok.fresh (Nat.le_of_eq hD)
  obtain ⟨W, ⟨m0, w0⟩, turn⟩ := q D dn
  generalize hs3 : ({ s2 with heap := s2.heap.push { cls := .type "list", data := .seq ([] : List Value).toArray } } : Shared) = s3
  have t3 : s3.toks = s2.toks := by rw [← hs3]
  have h3 : s3.heap = s2.heap.push { cls := .type "list", data := .seq ([] : List Value).toArray } := by rw [← hs3]
  have I3 : Inv X pins σ (upd H2 D (.lst [])) s3 := by
    rw [← hs3]
    refine I2.laid (t' := s2.toks) (fun b o e => Heap.get?_push_of_some _ e) (Nat.le_of_eq hD) ⟨Nat.zero_le _, [], 0, .nil, ?_⟩
    rw [← hD]
    exact Heap.get?_push_size _ rfl
  have sz : ∀ b ∈ fp, b < s2.heap.objs.size := by
    intro b hb
    obtain ⟨o, e, _⟩ := T.obj _ _ st2 b hb
    exact Heap.lt_size e
  have f3 : ∀ b ∈ fp, FpOk X pins (upd H2 D (.lst [])) b ∧ b < s3.heap.objs.size := by
    intro b hb
    have z := sz b hb
    refine ⟨⟨?_, (f2 b hb).2⟩, by rw [h3, Heap.size_push]; exact Nat.lt_succ_of_lt z⟩
    rw [upd_ne (by rw [← hD]; exact Nat.ne_of_lt z)]
    exact (f2 b hb).1
  have st3 : tn 0 s3.heap := T.keep _ _ _ st2 fun b _ o e => by rw [h3]; exact Heap.get?_push_of_some _ e
  have I4 := block_start I3 ok hN f3
  have pg := hg s3 (upd H2 D (.lst [])) s3.heap.objs.size (cellsFrom (s3.heap.objs.size + 1) scope.names (cloFrom X.env.cells scope.names [])) fp
  have pt := ht s3 (upd H2 D (.lst [])) s3.heap.objs.size (cellsFrom (s3.heap.objs.size + 1) scope.names (cloFrom X.env.cells scope.names [])) fp
  have pe := he s3 (upd H2 D (.lst [])) s3.heap.objs.size (cellsFrom (s3.heap.objs.size + 1) scope.names (cloFrom X.env.cells scope.names [])) fp
  have nfp : ∀ b ∈ fp, (upd H2 D (.lst [])) b = none := fun b hb => (f3 b hb).1.1
  show codeAny _ _ (.compStart (.ListComp elt [⟨tg, iter, ifs, 0⟩] scope pos) 0 (.ref it) (.ref D) (compEnvC scope (cellsFrom (s3.heap.objs.size + 1) scope.names (cloFrom X.env.cells scope.names [])) s3.heap.objs.size X.env))
    (compPost (model X.prog X.w) X.A X.xe none (EP X pins σ Q) (.ref D) s3.heap.objs.size) { s3 with heap := pushCells (s3.heap.push { cls := .type "dict", data := .dict #[] }) scope.names }
  generalize hce : compEnvC scope (cellsFrom (s3.heap.objs.size + 1) scope.names (cloFrom X.env.cells scope.names [])) s3.heap.objs.size X.env = ce at I4 pg pt pe ⊢
  have cL : ce.locals = s3.heap.objs.size := by subst hce; rfl
  generalize hH3 : upd H2 D (.lst []) = H3 at I3 I4 pg pt pe w0 nfp f3
  generalize hs4 : ({ s3 with heap := pushCells (s3.heap.push { cls := .type "dict", data := .dict #[] }) scope.names } : Shared) = s4 at I4 ⊢
  have l4 : n ≤ s4.toks := by rw [← hs4]; show n ≤ s3.toks; rw [t3]; exact l2
  have st4 : tn 0 s4.heap := T.keep _ _ _ st3 fun b _ o e => by rw [← hs4]; exact pushCells_keeps _ _ _ _ (Heap.get?_push_of_some _ e)
  have stat : ∀ {σ' : L2.St} {H' : Hp} {s' : Shared}, Inv (X.blk s3 H3 scope ce fp) [] σ' H' s' → (∀ b ∈ fp, H' b = none) → ∀ b ∈ fp, FpOk (X.blk s3 H3 scope ce fp) [] H' b := fun {σ' H' s'} I' hn b hb =>
    ⟨hn b hb, (I'.ok.exf b hb).1, I'.ok.exfs b hb, .inl hb, fun x c e => (I'.ok.exf b hb).2 x c e, fun p hp => absurd (show p ∈ ([] : List (Addr × Obj)) ++ [] from hp) (by simp)⟩
  have loop : codeAny (model X.prog X.w) X.A (.compLoop (.ListComp elt [⟨tg, iter, ifs, 0⟩] scope pos) 0 (.ref it) (.ref D) ce) (compPost (model X.prog X.w) X.A X.xe none (EP X pins σ Q) (.ref D) s3.heap.objs.size) s4 := by
    refine compLoop_any (fun m s' => n ≤ s'.toks ∧ ∃ i H', Inv (X.blk s3 H3 scope ce fp) [] (wipe σ (own.map (·.2))) H' s' ∧ tn i s'.heap ∧ (∀ b ∈ fp, H' b = none) ∧ W i m H') ?_ m0 ⟨l4, 0, H3, I4, st4, nfp, w0⟩
    rintro m s5 ⟨l5, i, H5, I5, st5, n5, w5⟩
    rcases turn i m H5 w5 with ⟨stop, qq⟩ | ⟨go, Nx, hNx, step⟩
    · refine thnF (T.done (X.blk s3 H3 scope ce fp) rfl rfl rfl hc i [] s5 _ H5 (fun _ _ => False) I5 (stat I5 n5) st5 stop) ?_
      rintro r s6 ⟨rfl, I6⟩
      have I7 : Inv X pins σ H5 s6 := I3.call' (ch := fp) I6.os I6.base I6.hok I6.bare fun b hb => ⟨(f3 b hb).1.2.2.2.1, (f3 b hb).1.2.1, (f3 b hb).1.2.2.2.2.1, (f3 b hb).1.2.2.2.2.2⟩
      have nC : H5 s3.heap.objs.size = none := by
        have z : H5 ce.locals = none := I6.free
        rw [cL] at z
        exact z
      obtain ⟨mm, hn, _⟩ := I6.loc
      have hn : s6.heap.Ns ce.locals mm := hn
      rw [cL] at hn
      obtain ⟨g0, g1, g2, g3, g4, g5⟩ := I3.fpOk (H' := H5) (Nat.le_refl _) nC
      exact ⟨mm, hn, fun g sb => ⟨.ref D, H5, I7.turned (t' := s6.toks) (fun b o hb e => (sb.2 b hb).trans e) g0 g1 g3 g4 g5, rfl, qq⟩⟩
    · refine thnF (tkE l5 (T.item (X.blk s3 H3 scope ce fp) rfl rfl rfl hc i [] s5 _ H5 (fun _ _ => False) I5 (stat I5 n5) st5 go)) ?_
      rintro r s6 ⟨l6, u, rfl, h6⟩
      refine thnF (tkE l6 h6) ?_
      rintro _ s7 ⟨l7, x, H7, I7, r7, y7, st7, n7⟩
      have I7' := I7.pinned (stat I7 n7) (T.obj _ _ st7)
      refine thnF (tkE l7 (pg.run _ s7 _ H7 x u _ I7' r7 (step x H7 y7))) ?_
      rintro _ s8 ⟨l8, σ8, H8, I8, hw8, q8⟩
      refine thnF (tkE l8 (pt.run _ s8 σ8 H8 _ I8 q8)) ?_
      rintro b s9 ⟨l9, H9, I9, q9⟩
      have fin : ∀ {s' : Shared} {H' : Hp}, n ≤ s'.toks → Inv (X.blk s3 H3 scope ce fp) ([] ++ pinsAt fp s7.heap) σ8 H' s' → Nx H' →
          ∃ m', m' < m ∧ n ≤ s'.toks ∧ ∃ i H', Inv (X.blk s3 H3 scope ce fp) [] (wipe σ (own.map (·.2))) H' s' ∧ tn i s'.heap ∧ (∀ b ∈ fp, H' b = none) ∧ W i m' H' := by
        intro s' H' ls I' nx
        obtain ⟨m', hm, w'⟩ := hNx H' nx
        have pin' : ∀ b ∈ fp, ∀ o, s7.heap.get? b = some o → s'.heap.get? b = some o ∧ H' b = none := fun b hb o e =>
          let z := I'.pin (b, o) (List.mem_append_right _ (List.mem_append_right _ (mem_pinsAt hb e)))
          ⟨z.1, z.2.1⟩
        have hl : (wipe σ (own.map (·.2))).length = σ8.length := by rw [← hw8, wipe_length]
        refine ⟨m', hm, ls, i + 1, H', (I'.unpinned (pins := [])).weak hl (fun j v e => ?_), T.keep _ _ _ st7 fun b hb o e => (pin' b hb o e).1, fun b hb => ?_, w'⟩
        · rw [← hw8] at e
          exact (wipe_some e).1
        · obtain ⟨o, e, _⟩ := T.obj _ _ st7 b hb
          exact (pin' b hb o e).2
      cases b with
      | false =>
        simp only [Bool.false_eq_true, if_false] at q9 ⊢
        exact fin l9 I9 q9
      | true =>
        simp only [if_true] at q9 ⊢
        refine thnF (tkE l9 (pe.run _ s9 σ8 H9 _ l9 I9 q9)) ?_
        rintro z s10 ⟨l10, yv, H10, I10, r10, acc, hD10, hz10, nx⟩
        refine thnF (tkE l10 (app_ok (X := X.blk s3 H3 scope ce fp) (Q := fun _ s' => Inv (X.blk s3 H3 scope ce fp) ([] ++ pinsAt fp s7.heap) σ8 (upd H10 D (.lst (acc ++ [yv]))) s') I10 hD10 hz10 r10 fun s11 I11 => I11)) ?_
        rintro _ s11 ⟨l11, I11⟩
        exact fin l11 I11 nx
  exact codeAny_compStart_list loop (T.self X.A 0 _ _ _ st4 loop)
/-! ### defs -/
theorem fnN_of {P : Program} {w : World} {K : PySem.W.Frag} {mg : Str → Option Value} {base : Heap} {x qual : Str} {st : Stmt} {f : Addr} {fd : FuncData} {N ps : List Str} {k n : Nat} {sp : Sp}
    (F : Fun K x qual st f fd) (S : FnScope N ps (defScope st))
    (hb : ∀ (kV doc pm : Value) (an : Option Addr) (cdv ct : Value) (us : List Value), us.length = ps.length → bindArgs (PySem.W.fnOf x qual (defArgs st) (defBody st) (defScope st) .none kV doc pm an cdv ct) ⟨us, []⟩ = pure (ps.zip us))
    (len : ∀ vs H Q E, sp vs H Q E → vs.length = ps.length)
    (hbody : ∀ (cdv : Value) (A : Around) (outer : List Env) (s : Shared) (H : Hp) (vs : List V) (Q : VK) (E : XK), Room k (A.deeper (envOfC qual (defScope st) s.heap.objs.size f cdv)) → sp vs H Q E →
      ∃ t, PSsn n (cxOf CX0 P w K mg base N qual (defScope st) f cdv A outer s H E) (defBody st) t ∧ t { nx := fun _ H' => Q .non H', rt := Q } (start N vs) H) : FnN n P w K mg base (k + 1) f sp := by
  obtain ⟨oc, od, kV, doc, pm, an, cdv, ct, osl, rfl, lk, hcd⟩ := F.ex
  intro A outer s H us vs Q E l0 hr e0 r hsp
  have hl : us.length = ps.length := r.length.symm.trans (len _ _ _ _ hsp)
  have KX : K.In s.heap := e0.mod.kin.keeps fun b o e => (e0.bs b o e).1
  have lim : s.heap.NoLimit := e0.mod.nolimit.keeps fun b o e => (e0.bs b o e).1
  have hkind : ∀ y ∈ ps.zip us, (defScope st).names.lookup y.1 = some .local ∨ ((defScope st).names.lookup y.1 = some .cell ∧ ((cellsFrom (s.heap.objs.size + 1) (defScope st).names []).lookup y.1).isSome = true) := fun y hy => by
    rcases S.par y.1 (List.of_mem_zip hy).1 with q | q
    · exact .inl q
    · exact .inr ⟨q, PySem.W.cellsFrom_some _ _ _ (.inl q)⟩
  refine codeAny_call_function hr.depth (KX _ _ lk) rfl S.co S.gen rfl (PySem.W.codeRec_of KX hcd) (BindsTo.of_eq (hb kV doc pm an cdv ct us hl) _ _ _ _ ?_)
  refine wpAny_mono (tkE (Nat.le_refl s.toks) (wpAny_newFunctionEnv_cells S.kind hkind fun env he s1 x => (⟨he, x⟩ : env = _ ∧ InCallC s _ _ _ _ s1))) ?_ fun _ _ z => z
  rintro env s1 ⟨ht, rfl, x⟩
  refine ⟨lim.keeps x.toInCall.keep, codeAny_func ?_⟩
  obtain ⟨t, he, hq⟩ := hbody cdv A outer s H vs Q E (hr.deeper _) hsp
  have I : Inv (cxOf CX0 P w K mg base N qual (defScope st) f cdv A outer s H E) [] (start N vs) H s1 := inv_start S hr.hd e0 (len _ _ _ _ hsp) r x
  refine wpAny_mono (he.run [] s1 _ H _ (Nat.le_trans l0 ht) I hq) (fun fl s' hs => ?_) fun _ _ z => z
  cases fl with
  | ret u =>
    obtain ⟨v, σ', H', J, rv, q⟩ := hs
    exact ⟨v, H', J.os, J.bare, J.base, J.hok, rv, q⟩
  | next =>
    obtain ⟨σ', H', J, q⟩ := hs
    exact ⟨.non, H', J.os, J.bare, J.base, J.hok, rfl, q⟩
  | brk =>
    obtain ⟨_, _, _, q⟩ := hs
    exact False.elim q
  | cont =>
    obtain ⟨_, _, _, q⟩ := hs
    exact False.elim q
/-- a def with a parameter: behind the binding a token is out -/
theorem fnOk_1 {P : Program} {w : World} {K : PySem.W.Frag} {mg : Str → Option Value} {base : Heap} {x qual : Str} {st : Stmt} {f : Addr} {fd : FuncData} {N ps : List Str} {k : Nat} {sp : Sp} {CX : CXT}
    (F : Fun K x qual st f fd) (S : FnScope N ps (defScope st)) (hnc : ∀ y ∈ (defScope st).names, y.2 ≠ .cell) (hps : 1 ≤ ps.length)
    (len : ∀ vs H Q E, sp vs H Q E → vs.length = ps.length)
    (hbody : ∀ (cdv : Value) (A : Around) (outer : List Env) (s : Shared) (H : Hp) (vs : List V) (Q : VK) (E : XK), Room k (A.deeper (envOfC qual (defScope st) s.heap.objs.size f cdv)) → sp vs H Q E →
      ∃ t, PSsn 1 (cxOf CX P w K mg base N qual (defScope st) f cdv A outer s H E) (defBody st) t ∧ t { nx := fun _ H' => Q .non H', rt := Q } (start N vs) H) : FnOk P w K mg base CX (k + 1) f fd ps sp := by
  obtain ⟨oc, od, kV, doc, pm, an, cdv, ct, osl, rfl, lk, hcd⟩ := F.ex
  exact fn_ofT lk hcd S hnc hps len fun A outer s H vs Q E hr h => by
    obtain ⟨t, h1, h2⟩ := hbody cdv A outer s H vs Q E hr h
    exact ⟨t, h1.toT, h2⟩
end Pd

set_option maxHeartbeats 2000000
namespace Pd
open PySem PySem.Spec PyProof.Rows L2
/-! ### a sign of a text, as a new text -/
def tIxS (ta tb : TE) : TE := fun σ H Q => ta σ H fun x H1 => ∃ z : Str, x = .str z ∧ tb σ H1 fun y H2 => ∃ (i : Int) (c : Nat), y = .int i ∧ 0 ≤ i ∧ i < z.length ∧ z.length ≤ 1000 ∧ z.cps[i.toNat]? = some c ∧ Q (.str ⟨#[c]⟩) H2
/-- as PEF, but the new token may be the first free one -/
structure PEG (X : Cx) (e : Expr) (t : TE) : Prop where
  run : ∀ (pins : List (Addr × Obj)) (s : Shared) (σ : L2.St) (H : Hp) (Q : VK), Inv X pins σ H s → t σ H Q →
    wpAny (model X.prog X.w) X.A (eval e X.env) (fun u s' => EP X pins σ Q u s' ∧ s.toks ≤ s'.toks ∧ Frsh s.toks s'.toks u) X.xe s
theorem PEF.peg {X : Cx} {e : Expr} {t : TE} (h : PEF X e t) : PEG X e t := ⟨fun pins s σ H Q I q => thn (h.run pins s σ H Q I q) fun u s' ⟨a, b, x, t, e, l1, l2⟩ => ⟨a, b, x, t, e, by omega, l2⟩⟩
theorem peg_ix {X : Cx} {a b : Expr} {ta tb : TE} {pos : Pos} (ha : PE X a ta) (hb : PE X b tb) (hs : PlainIxT b) : PEG X (.Subscript a b pos) (tIxS ta tb) := by
  constructor
  intro pins s σ H Q I h
  refine Subscript_ (thk (Nat.le_refl s.toks) (ha.run pins s σ H _ I h) ?_)
  rintro u0 s1 l1 ⟨x, H1, I1, rx, z, rfl, h1⟩
  obtain ⟨tz, rfl⟩ := rx
  refine thk l1 (hb.run pins s1 σ H1 _ I1 h1) ?_
  rintro u s2 l2 ⟨y, H2, I2, ry, i, c, rfl, h0, h1, hz, hc, q⟩
  obtain ⟨t, rfl⟩ := ry
  have e : seqIndex? i z.length = some i.toNat := PySem.StrLaws.seqIndex_nonneg h0 h1
  refine tail_any (typeIs_str s2 z tz) slot_str_getitem.lookup (getItem_str (c := c) ?_ (by rw [e]; exact hc) ⟨⟨.str ⟨#[c]⟩, H2, I2.tok _, ⟨_, rfl⟩, q⟩, ?_, _, _, rfl, ?_, ?_⟩) (hs _ _)
  · rw [decide_eq_false (by omega), decide_eq_false (by omega)]; rfl
  · show s.toks ≤ s2.toks + 1; omega
  · exact l2
  · exact Nat.lt_succ_self _
/-! ### a test that gives out a token -/
structure PTF (X : Cx) (e : Expr) (t : TT) : Prop where
  run : ∀ (pins : List (Addr × Obj)) (s : Shared) (σ : L2.St) (H : Hp) (Q : Bool → Hp → Prop), Inv X pins σ H s → t σ H Q →
    wpAny (model X.prog X.w) X.A (isTrue e X.env (eval e X.env)) (fun b s' => TP X pins σ Q b s' ∧ s.toks + 1 ≤ s'.toks) X.xe s
def tEqI (k : Int) (ta : TE) : TT := fun σ H Q => ta σ H fun x H1 => ∃ n : Int, x = .int n ∧ Q (n == k) H1
theorem ptf_eqI {X : Cx} {a : Expr} {ta : TE} {k : Int} {j : Nat} {cp pos : Pos} (ha : PE X a ta) : PTF X (.Compare a [.Eq] [.Constant (.int k) j cp] pos) (tEqI k ta) := by
  constructor
  intro pins s σ H Q I h
  refine wpAny_isTrue_Compare1 (thk (Nat.le_refl s.toks) (ha.run pins s σ H _ I h) ?_)
  rintro u s1 l1 ⟨x, H1, I1, rx, n, rfl, q⟩
  obtain ⟨t, rfl⟩ := rx
  exact wpAny_Constant_int (eq_int (wpAny_truthy_bool ⟨⟨H1, I1.tok _, q⟩, Nat.succ_le_succ l1⟩))
/-! ### a def of two returns that gives a new text -/
theorem fnT_if {P : Program} {w : World} {K : PySem.W.Frag} {mg : Str → Option Value} {base : Heap} {x qual : Str} {st : Stmt} {f : Addr} {fd : FuncData} {N ps : List Str} {k : Nat} {sp : Sp} {c e1 e2 : Expr} {p1 p2 p3 : Pos}
    (F : Fun K x qual st f fd) (S : FnScope N ps (defScope st)) (hst : defBody st = [.If c [.Return (some e1) p1] [] p2, .Return (some e2) p3])
    (hb : ∀ (kV doc pm : Value) (an : Option Addr) (cdv ct : Value) (us : List Value), us.length = ps.length → bindArgs (PySem.W.fnOf x qual (defArgs st) (defBody st) (defScope st) .none kV doc pm an cdv ct) ⟨us, []⟩ = pure (ps.zip us))
    (len : ∀ vs H Q E, sp vs H Q E → vs.length = ps.length)
    (hbody : ∀ (cdv : Value) (A : Around) (outer : List Env) (s : Shared) (H : Hp) (vs : List V) (Q : VK) (E : XK), Room k (A.deeper (envOfC qual (defScope st) s.heap.objs.size f cdv)) → sp vs H Q E →
      ∃ tc t1 t2, PTF (cxOf CX0 P w K mg base N qual (defScope st) f cdv A outer s H E) c tc ∧ PEG (cxOf CX0 P w K mg base N qual (defScope st) f cdv A outer s H E) e1 t1 ∧ PEG (cxOf CX0 P w K mg base N qual (defScope st) f cdv A outer s H E) e2 t2 ∧
        tc (start N vs) H fun b H1 => if b = true then t1 (start N vs) H1 Q else t2 (start N vs) H1 Q) : FnT P w K mg base CX0 (k + 1) f sp := by
  obtain ⟨oc, od, kV, doc, pm, an, cdv, ct, osl, rfl, lk, hcd⟩ := F.ex
  intro A outer s H us vs Q E hr e0 r hsp
  have hl : us.length = ps.length := r.length.symm.trans (len _ _ _ _ hsp)
  have KX : K.In s.heap := e0.mod.kin.keeps fun b o e => (e0.bs b o e).1
  have lim : s.heap.NoLimit := e0.mod.nolimit.keeps fun b o e => (e0.bs b o e).1
  have hkind : ∀ y ∈ ps.zip us, (defScope st).names.lookup y.1 = some .local ∨ ((defScope st).names.lookup y.1 = some .cell ∧ ((cellsFrom (s.heap.objs.size + 1) (defScope st).names []).lookup y.1).isSome = true) := fun y hy => by
    rcases S.par y.1 (List.of_mem_zip hy).1 with q | q
    · exact .inl q
    · exact .inr ⟨q, PySem.W.cellsFrom_some _ _ _ (.inl q)⟩
  refine codeAny_call_function hr.depth (KX _ _ lk) rfl S.co S.gen rfl (PySem.W.codeRec_of KX hcd) (BindsTo.of_eq (hb kV doc pm an cdv ct us hl) _ _ _ _ ?_)
  refine wpAny_mono (tkE (Nat.le_refl s.toks) (wpAny_newFunctionEnv_cells S.kind hkind fun env he s1 x => (⟨he, x⟩ : env = _ ∧ InCallC s _ _ _ _ s1))) ?_ fun _ _ z => z
  rintro env s1 ⟨ht, rfl, x⟩
  refine ⟨lim.keeps x.toInCall.keep, codeAny_func ?_⟩
  obtain ⟨tc, t1, t2, hc, h1, h2, hq⟩ := hbody cdv A outer s H vs Q E (hr.deeper _) hsp
  have I : Inv (cxOf CX0 P w K mg base N qual (defScope st) f cdv A outer s H E) [] (start N vs) H s1 := inv_start S hr.hd e0 (len _ _ _ _ hsp) r x
  rw [hst]
  have fin : ∀ {s2 : Shared} {H2 : Hp} {e : Expr} {t : TE}, s.toks + 1 ≤ s2.toks → PEG (cxOf CX0 P w K mg base N qual (defScope st) f cdv A outer s H E) e t → Inv (cxOf CX0 P w K mg base N qual (defScope st) f cdv A outer s H E) [] (start N vs) H2 s2 → t (start N vs) H2 Q →
      ∀ {p : Pos}, wpAny (model P w) (cxOf CX0 P w K mg base N qual (defScope st) f cdv A outer s H E).A (exec (.Return (some e) p) (cxOf CX0 P w K mg base N qual (defScope st) f cdv A outer s H E).env) (fun fl s' => ∃ u, fl = .ret u ∧ CE outer P w H s Q u s' ∧ s.toks ≤ s'.toks ∧ Frsh (s.toks + 1) s'.toks u) (cxOf CX0 P w K mg base N qual (defScope st) f cdv A outer s H E).xe s2 := by
    intro s2 H2 e t l2 pe I2 q2 p
    refine wpAny_Return_some (wpAny_mono (pe.run [] s2 _ H2 Q I2 q2) ?_ fun _ _ z => z)
    rintro u s' ⟨⟨v, H', J, rv, q⟩, m1, xz, tz, rfl, m2, m3⟩
    exact ⟨_, rfl, ⟨v, H', J.os, J.bare, J.base, J.hok, rv, q⟩, by omega, xz, tz, rfl, by omega, m3⟩
  have run : wpAny (model P w) (cxOf CX0 P w K mg base N qual (defScope st) f cdv A outer s H E).A (execs [.If c [.Return (some e1) p1] [] p2, .Return (some e2) p3] (cxOf CX0 P w K mg base N qual (defScope st) f cdv A outer s H E).env) (fun fl s' => ∃ u, fl = .ret u ∧ CE outer P w H s Q u s' ∧ s.toks ≤ s'.toks ∧ Frsh (s.toks + 1) s'.toks u)
      (cxOf CX0 P w K mg base N qual (defScope st) f cdv A outer s H E).xe s1 := by
    refine wpAny_execs_cons (wpAny_If (thn (hc.run [] s1 _ H _ I hq) fun d s2 ⟨⟨H2, I2, q2⟩, l1⟩ => ?_))
    have l2 : s.toks + 1 ≤ s2.toks := Nat.le_trans (Nat.succ_le_succ ht) l1
    cases d with
    | true =>
      refine wpAny_execs_cons (wpAny_mono (fin l2 h1 I2 q2) ?_ fun _ _ z => z)
      rintro fl s3 ⟨u, rfl, r3⟩
      exact ⟨u, rfl, r3⟩
    | false =>
      refine wpAny_execs_nil ?_
      refine wpAny_execs_cons (wpAny_mono (fin l2 h2 I2 q2) ?_ fun _ _ z => z)
      rintro fl s3 ⟨u, rfl, r3⟩
      exact ⟨u, rfl, r3⟩
  refine wpAny_mono run ?_ ?_
  · rintro fl s' ⟨u, rfl, ce, l, fr⟩
    refine ⟨ce, fun u' e => ?_⟩
    injection e with e
    injection e with e
    subst e
    exact ⟨l, fr⟩
  · intro e s' h
    exact wpAny_mono h (fun _ _ h => ⟨h, fun _ e => nomatch e⟩) fun _ _ h => ⟨h, fun _ e => nomatch e⟩
/-! ### return ('swap', e1, e2), both new texts -/
def tSwapT (t1 t2 : TE) : TS := fun D σ H => t1 σ H fun x H1 => t2 σ H1 fun y H2 => ∃ a b : Str, x = .str a ∧ y = .str b ∧ ∀ p H3, H2 p = none → SwapAt H3 p a b → (∀ c, c ≠ p → H3 c = H2 c) → D.rt (.ref p) H3
theorem ps_retSwap {X : Cx} {e1 e2 : Expr} {t1 t2 : TE} {j k : Nat} {c p q : Pos} (h1 : PEF X e1 t1) (h2 : PEF X e2 t2)
    (hst : starEach [.Constant (.str "swap") j c, e1, e2] X.env = [(false, eval (.Constant (.str "swap") j c) X.env), (false, eval e1 X.env), (false, eval e2 X.env)] := by rfl) :
    PS X (.Return (some (.Tuple [.Constant (.str "swap") j c, e1, e2] k p)) q) (tSwapT t1 t2) := by
  constructor
  intro pins s σ H D I h
  refine wpAny_Return_some (Tuple_ ?_)
  rw [hst]
  show wpAny _ _ (spliced ((false, eval (.Constant (.str "swap") j c) X.env) :: (false, eval e1 X.env) :: [(false, eval e2 X.env)])) _ _ _
  refine Calls.spliced_cons (Calls.Constant_str (Calls.spliced_cons ?_))
  refine thn (h1.run pins _ σ H _ (I.tok _) h) ?_
  rintro u1 s1 ⟨⟨x, H1, I1, r1, h'⟩, l1, z1, k1, rfl, m1, m2⟩
  refine Calls.spliced_cons (thn (h2.run pins s1 σ H1 _ I1 h') ?_)
  rintro u2 s2 ⟨⟨y, H2, I2, r2, a, b, rfl, rfl, fin⟩, l2, z2, k2, rfl, m3, m4⟩
  obtain rfl : z1 = a := by obtain ⟨_, e⟩ := r1; injection e
  obtain rfl : z2 = b := by obtain ⟨_, e⟩ := r2; injection e
  refine Calls.spliced_nil (wpAny_newTuple ?_ (by show 3 ≤ sizeLine; decide))
  have new : H2 s2.heap.objs.size = none := I2.hok.fresh (Nat.le_refl _)
  refine ⟨.ref s2.heap.objs.size, σ, upd H2 s2.heap.objs.size (.frz { cls := .type "tuple", data := .seq #[.str "swap" s.toks, .str z1 k1, .str z2 k2] 0 } (.tup [.str "swap", .str z1, .str z2])), ?_, rfl, fin _ _ new ⟨0, _, k1, k2, upd_same, ?_, ?_, fun z => ?_⟩ fun b hb => upd_ne hb⟩
  · exact I2.laid (t' := s2.toks) (fun b o q => Heap.get?_push_of_some _ q) (Nat.le_refl _) ⟨Heap.get?_push_size _ rfl, by show 3 ≤ sizeLine; decide, [.str "swap" _, .str z1 k1, .str z2 k2], .cons ⟨_, rfl⟩ (.cons ⟨_, rfl⟩ (.cons ⟨_, rfl⟩ .nil)), ⟨_, Heap.get?_push_size _ rfl, rfl, _, rfl⟩⟩
  · exact Nat.ne_of_gt (Nat.lt_of_lt_of_le (Nat.succ_pos _) m1)
  · exact Nat.ne_of_gt (Nat.lt_of_lt_of_le (Nat.succ_pos _) m3)
  · subst z
    exact absurd (Nat.lt_of_lt_of_le m2 (Nat.le_of_succ_le m3)) (Nat.lt_irrefl _)
end Pd

set_option maxHeartbeats 2000000
namespace Pd
open PySem PySem.Spec PyProof.Rows L2
theorem callR_or {X : Cx} {f : Value} {r1 r2 : List V → Hp → VK → Prop} (h1 : CallR X f r1) (h2 : CallR X f r2) : CallR X f (fun xs H Q => r1 xs H Q ∨ r2 xs H Q) := by
  intro pins s σ H xs us Q I r h
  rcases h with h | h
  · exact h1 pins s σ H xs us Q I r h
  · exact h2 pins s σ H xs us Q I r h
/-- f(k = v, ..) -/
theorem pe_callK0 {X : Cx} {CX : CXT} {k : Nat} {f : Addr} {fd : FuncData} {ps ks : List Str} {sp : Sp} {E : XK} {x : Str} {p pos : Pos} {kws : List Keyword} {tk : TA} {g : List Value → List Value → List Value} {gV : List V → List V → List V}
    (F : FnOk X.prog X.w X.K X.mg X.base CX k f fd ps sp) (hr : Room k X.A) (hg : Gl X x) (hm : X.mg x = some (.ref f)) (hk : PySem.W.keepIn X.K (.ref f) = true) (hb : KBn X.K fd ps 0 ks g gV) (hx : Passes CX X E) (hkw : PK X kws tk)
    (hall : (backToKw pos (keywordEach kws X.env)).all (·.1.isSome) = true := by rfl) (hks : (backToKw pos (keywordEach kws X.env)).filterMap (·.1) = ks := by rfl) (hdb : (x == ("__debug__" : Str)) = false := by decide)
    (hpl : ((backTo pos (starEach [] X.env)).any (·.1) || (backToKw pos (keywordEach kws X.env)).any (·.1.isNone)) = false := by rfl) :
    PE X (.Call (.Name x p) [] kws pos) (tCallN 0 ks.length sp gV E tNil tk) := by
  constructor
  intro pins s σ H Q I h
  refine wpAny_Call_Name_kw (ld_glob I hg hm ?_ hdb)
  refine PySem.W.callWith_KW0 (h₀ := X.base) I.ok.mod.kin hk hall ?_ hpl
  refine thn (hkw.run pos pins s σ H _ I h) fun ws s2 ⟨zs, H2, I2, rz, l1, l2, q2⟩ => ⟨I2.kIn, ?_⟩
  rw [hks]
  exact L2.run_fnN (us := []) (vs := []) F hr hb hx I2 .nil rz rfl l2 q2
end Pd

set_option maxHeartbeats 4000000
namespace Pd
open PySem PySem.Spec PyProof.Rows L2
/-! ### raw values of local names, through calls -/
theorem Holds.at' {X : Cx} {s s' : Shared} {x : Str} {u : Value} (h : Holds X s x u) (e : ∀ o, s.heap.get? X.env.locals = some o → ∃ sl, s'.heap.get? X.env.locals = some { o with slots := sl }) : Holds X s' x u := by
  obtain ⟨kd, m, ⟨o, es, ep, h1, h2, h3, h4⟩, hm⟩ := h
  obtain ⟨sl, e1⟩ := e o h1
  exact ⟨kd, m, ⟨_, es, ep, e1, h2, h3, h4⟩, hm⟩
theorem Holds.up {X : Cx} {s s' : Shared} {x : Str} {u : Value} (h : Holds X s x u) (k : ∀ b o, s.heap.get? b = some o → s'.heap.get? b = some o) : Holds X s' x u := h.at' fun o e => ⟨o.slots, k _ _ e⟩
/-- an expression that leaves the local names as they are -/
structure PEH (X : Cx) (e : Expr) (t : TE) : Prop where
  run : ∀ (pins : List (Addr × Obj)) (s : Shared) (σ : L2.St) (H : Hp) (Q : VK), Inv X pins σ H s → t σ H Q →
    wpAny (model X.prog X.w) X.A (eval e X.env) (fun u s' => EP X pins σ Q u s' ∧ ∀ x w, Holds X s x w → Holds X s' x w) X.xe s
structure PAH (X : Cx) (es : List Expr) (t : TA) : Prop where
  run : ∀ (pos : Pos) (pins : List (Addr × Obj)) (s : Shared) (σ : L2.St) (H : Hp) (Q : List V → Hp → Prop), Inv X pins σ H s → t σ H Q →
    wpAny (model X.prog X.w) X.A (spliced (backTo pos (starEach es X.env))) (fun us s' => AP X pins σ Q us s' ∧ ∀ x w, Holds X s x w → Holds X s' x w) X.xe s
section
variable {X : Cx} {a b e : Expr} {es : List Expr} {ta tb te : TE} {tl : TA} {pos p : Pos}
theorem peh_int {n : Int} {j : Nat} : PEH X (.Constant (.int n) j pos) (tC (.int n)) :=
  ⟨fun pins s σ H Q I q => wpAny_Constant_int ⟨⟨.int n, H, I.tok _, ⟨_, rfl⟩, q⟩, fun x w h => h.up fun _ _ z => z⟩⟩
theorem peh_local {i : Nat} {x : Str} (hN : X.N[i]? = some x) (hv : X.env.scope.names.lookup x = some .local) (hd : (x == ("__debug__" : Str)) = false := by decide) : PEH X (.Name x pos) (tVar i) := by
  constructor
  intro pins s σ H Q I h
  obtain ⟨v, hσ, q⟩ := h
  obtain ⟨m, hn, hl⟩ := I.loc
  obtain ⟨u, r, l⟩ := hl i x _ hN hσ (.inl hv)
  rcases l with ⟨hk, hm⟩ | ⟨hk, _⟩
  · exact wpAny_Name (wpAny_loadName_local I.ok.kind hk hn hm ⟨⟨v, H, I, r, q⟩, fun _ _ z => z⟩) hd
  · have hv' : X.env.kindOf x = some .local := hv
    rw [hv'] at hk
    rcases hk with hk | hk <;> cases hk
theorem peh_add (ha : PEH X a ta) (hb : PEH X b tb) : PEH X (.BinOp a .Add b pos) (tOp (rI0 fun i j => .int (i + j)) ta tb) := by
  constructor
  intro pins s σ H Q I h
  refine wpAny_BinOp (thn (ha.run pins s σ H _ I h) ?_)
  rintro u s1 ⟨⟨x, H1, I1, r1, q1⟩, k1⟩
  refine thn (hb.run pins s1 σ H1 _ I1 q1) ?_
  rintro w s2 ⟨⟨y, H2, I2, r2, i, j, rfl, rfl, q⟩, k2⟩
  obtain ⟨t, rfl⟩ := r1
  obtain ⟨t', rfl⟩ := r2
  exact PyProof.Rows.add_int ⟨⟨.int (i + j), H2, I2.tok _, ⟨_, rfl⟩, q⟩, fun x w h => (k2 x w (k1 x w h)).up fun _ _ z => z⟩
theorem pah_nil : PAH X [] tNil := ⟨fun _ _ _ _ H Q I h => Calls.spliced_nil ⟨⟨[], H, I, .nil, h⟩, fun _ _ z => z⟩⟩
theorem pah_cons (ha : PEH X e te) (hr : PAH X es tl) (hs : starEach (e :: es) X.env = (false, eval e X.env) :: starEach es X.env := by rfl) : PAH X (e :: es) (tCons te tl) := by
  constructor
  intro pos pins s σ H Q I h
  rw [hs]
  show wpAny _ _ (spliced ((false, eval e X.env) :: backTo pos (starEach es X.env))) _ _ s
  refine Calls.spliced_cons (thn (ha.run pins s σ H _ I h) ?_)
  rintro w s1 ⟨⟨x, H1, I1, r1, q1⟩, k1⟩
  refine thn (hr.run pos pins s1 σ H1 _ I1 q1) ?_
  rintro us s2 ⟨⟨xs, H2, I2, r2, q2⟩, k2⟩
  exact ⟨⟨x :: xs, H2, I2, .cons r1 r2, q2⟩, fun x w h => k2 x w (k1 x w h)⟩
theorem peh_call {k : Nat} {f : Addr} {sp : Sp} {x : Str} {E : XK} (F : FnR X.prog X.w X.K X.mg X.base CX0 k f sp) (hr : Room k X.A) (hg : Gl X x) (hm : X.mg x = some (.ref f)) (hk : PySem.W.keepIn X.K (.ref f) = true)
    (ha : PAH X (e :: es) tl) (hdb : (x == ("__debug__" : Str)) = false := by decide) (he : starEach (e :: es) X.env = (false, eval e X.env) :: starEach es X.env := by rfl) (hpl : (backTo pos (starEach es X.env)).any (·.1) = false := by rfl) :
    PEH X (.Call (.Name x p) (e :: es) [] pos) (tCall sp [] E tl) := by
  constructor
  intro pins s σ H Q I h
  refine wpAny_Call_Name_kw (ld_glob I hg hm ?_ hdb)
  refine PySem.W.callWith_K (h₀ := X.base) I.ok.mod.kin hk (thn (ha.run pos pins s σ H _ I h) ?_) he hpl
  rintro us s1 ⟨⟨vs, H1, I1, r, q⟩, k1⟩
  rw [List.append_nil] at q
  refine ⟨I1.kIn, wpAny_call (codeAny_mono (F X.A X.stack s1 H1 us vs Q E hr I1.env0 r q) fun r s' hq => ?_)⟩
  cases r with
  | error e => exact pass0 pins σ H1 s1 e s' I1 hq
  | ok fl =>
    cases fl with
    | ret w =>
      have hq' : CE X.stack X.prog X.w H1 s1 Q w s' := hq
      obtain ⟨v, H', os, bare, un, hok, rv, q'⟩ := id hq'
      exact ⟨I1.after hq', fun x w h => (k1 x w h).at' fun o e => un.any e I1.free (by simp)⟩
    | next => exact False.elim hq
    | brk => exact False.elim hq
    | cont => exact False.elim hq
end
/-- a local name that holds an int -/
theorem name_int {X : Cx} {pins : List (Addr × Obj)} {σ : L2.St} {H : Hp} {s : Shared} {i : Nat} {x : Str} {n : Int} {pos : Pos} {Q E : Value → Shared → Prop} (hN : X.N[i]? = some x) (hv : X.env.scope.names.lookup x = some .local) (I : Inv X pins σ H s)
    (hσ : σ[i]? = some (some (.int n))) (q : ∀ t, Q (.int n t) s) (hd : (x == ("__debug__" : Str)) = false := by decide) : wpAny (model X.prog X.w) X.A (eval (.Name x pos) X.env) Q E s := by
  obtain ⟨m, hn, hl⟩ := I.loc
  obtain ⟨u, r, l⟩ := hl i x _ hN hσ (.inl hv)
  obtain ⟨t, rfl⟩ := r
  rcases l with ⟨hk, hm⟩ | ⟨hk, _⟩
  · exact wpAny_Name (wpAny_loadName_local I.ok.kind hk hn hm (q t)) hd
  · have hv' : X.env.kindOf x = some .local := hv
    rw [hv'] at hk
    rcases hk with hk | hk <;> cases hk
/-- a list of texts of unlike tokens, all below b -/
def TxtsB (b : Nat) (H : Hp) (a : Addr) (cs : List Str) : Prop :=
  ∃ (its : List Value) (n m k : Nat), H a = some (.frz { cls := .type "list", data := .seq its.toArray n } (.lst (cs.map V.str))) ∧ TkL m k cs its ∧ 1 ≤ m ∧ k ≤ b
theorem TxtsB.txts {b : Nat} {H : Hp} {a : Addr} {cs : List Str} (h : TxtsB b H a cs) : TxtsAt H a cs := by
  obtain ⟨its, n, m, k, e, t, l, _⟩ := h
  exact ⟨its, n, m, k, e, t, l⟩
theorem TxtsB.same {b : Nat} {H H' : Hp} {a : Addr} {cs : List Str} (h : TxtsB b H a cs) (e : H' a = H a) : TxtsB b H' a cs := by
  obtain ⟨its, n, m, k, e1, r⟩ := h
  exact ⟨its, n, m, k, e.trans e1, r⟩
/-- ('once', a), its text's token below b -/
def OnceB (b : Nat) (H : Hp) (p : Addr) (a : Str) : Prop :=
  ∃ (n : Nat) (t0 t : Tok), H p = some (.frz { cls := .type "tuple", data := .seq #[.str "once" t0, .str a t] n } (.tup [.str "once", .str a])) ∧ t ≠ 0 ∧ t < b
/-- way, one, two = ..; if way == 2: ..; cut = ('cut', ..); return [.., .., (), .., .., cut][way] -/
def tSix (iw io it ic ig : Nat) (t1 ti ti2 tc : TE) (t0 : TS) : TS := fun D σ H => t1 σ H fun x H1 => ∃ (n : Int) (a : Addr) (cs : List Str) (b : Nat), x = .int n ∧ 0 ≤ n ∧ n < 6 ∧ σ[ig]? = some (some (.ref a)) ∧ cs.length ≤ 1000 ∧ TxtsB b H1 a cs ∧
  ti σ H1 fun y H2 => ∃ (i : Int) (c : Str), y = .int i ∧ H2 a = H1 a ∧ 0 ≤ i ∧ cs[i.toNat]? = some c ∧
  ti2 σ H2 fun y2 H3 => ∃ (j : Int) (d : Str), y2 = .int j ∧ H3 a = H2 a ∧ 0 ≤ j ∧ cs[j.toNat]? = some d ∧
  (n = 2 → t0 { D with nx := fun _ _ => False } (((σ.set iw (some (.int n))).set io (some (.str c))).set it (some (.str d))) H3) ∧
  (n ≠ 2 → tc (((σ.set iw (some (.int n))).set io (some (.str c))).set it (some (.str d))) H3 fun z H4 => ∃ m : Int, z = .int m ∧ ∀ q, H4 q = none →
    (n = 5 → D.rt (.ref q) (upd H4 q (.tup [.str "cut", .int m]))) ∧ ∀ p, p ≠ q → H4 p = none →
    (n = 0 → D.rt (.ref p) (upd (upd H4 q (.tup [.str "cut", .int m])) p (.tup [.str "lower"]))) ∧
    (n = 1 → ∀ H6, SwapAt H6 p c d → (∀ b', b' ≠ p → H6 b' = (upd H4 q (.tup [.str "cut", .int m])) b') → D.rt (.ref p) H6) ∧
    (n = 3 → D.rt (.ref p) (upd (upd H4 q (.tup [.str "cut", .int m])) p (.tup [.str "lead", .str c]))) ∧
    (n = 4 → ∀ H6, OnceB b H6 p c → (∀ b', b' ≠ p → H6 b' = (upd H4 q (.tup [.str "cut", .int m])) b') → D.rt (.ref p) H6))
theorem TkL.got {n m i : Nat} {c : Str} {t : Nat} {cs : List Str} {us : List Value} (h : TkL n m cs us) (e1 : cs[i]? = some c) (e2 : us[i]? = some (.str c t)) : n ≤ t ∧ t < m := by
  obtain ⟨t', e3, l1, l2⟩ := h.get e1
  rw [e2] at e3
  cases e3
  exact ⟨l1, l2⟩
/-- s' is s with new objects and tokens -/
structure Nw (X : Cx) (s s' : Shared) : Prop where
  k : ∀ b u, s.heap.get? b = some u → s'.heap.get? b = some u
  sz : s.heap.objs.size ≤ s'.heap.objs.size
  eq : s' = { s with heap := s'.heap, toks := s'.toks }
theorem Nw.inv {X : Cx} {s s' : Shared} (n : Nw X s s') {pins : List (Addr × Obj)} {σ : L2.St} {H : Hp} (I : Inv X pins σ H s) : Inv X pins σ H s' := by
  rw [n.eq]
  exact I.kept n.k
theorem Nw.trans {X : Cx} {s s' s'' : Shared} (a : Nw X s s') (b : Nw X s' s'') : Nw X s s'' := ⟨fun c u z => b.k c u (a.k c u z), Nat.le_trans a.sz b.sz, by
  have e := b.eq
  rw [a.eq] at e
  exact e⟩
theorem Nw.push {X : Cx} {s : Shared} {o : Obj} {t : Nat} : Nw X s { s with heap := s.heap.push o, toks := t } := ⟨fun _ _ z => Heap.get?_push_of_some _ z, by show _ ≤ (s.heap.push o).objs.size; rw [Heap.size_push]; exact Nat.le_succ _, rfl⟩
def tupO (us : List Value) : Obj := { cls := .type "tuple", data := .seq us.toArray }
section
variable {X : Cx} {s : Shared} {R E : Value → Shared → Prop} {w : Str} {j k : Nat} {c p a b : Pos} {x y : Str} {u v : Value}
theorem tup_w1 (hst : starEach [.Constant (.str w) j c] X.env = [(false, eval (.Constant (.str w) j c) X.env)]) (fin : ∀ s' t, Nw X s s' → s'.heap.get? s.heap.objs.size = some (tupO [.str w t]) → R (.ref s.heap.objs.size) s') :
    wpAny (model X.prog X.w) X.A (eval (.Tuple [.Constant (.str w) j c] k p) X.env) R E s := by
  refine Tuple_ ?_
  rw [hst]
  show wpAny _ _ (spliced [(false, eval (.Constant (.str w) j c) X.env)]) _ _ _
  exact Calls.spliced_cons (Calls.Constant_str (Calls.spliced_nil (wpAny_newTuple (fin _ _ .push (Heap.get?_push_size _ rfl)) (by show 1 ≤ sizeLine; decide))))
theorem tup_w0 (fin : ∀ s', Nw X s s' → R (.ref s.heap.objs.size) s') : wpAny (model X.prog X.w) X.A (eval (.Tuple [] k p) X.env) R E s :=
  Tuple_ (Calls.spliced_nil (wpAny_newTuple (fin _ .push) (by show 0 ≤ sizeLine; decide)))
theorem tup_w2 {pins : List (Addr × Obj)} {σ : L2.St} {H : Hp} (I : Inv X pins σ H s) (K : Holds X s x u) (hd : (x == ("__debug__" : Str)) = false) (hst : starEach [.Constant (.str w) j c, .Name x a] X.env = [(false, eval (.Constant (.str w) j c) X.env), (false, eval (.Name x a) X.env)])
    (fin : ∀ s' t, Nw X s s' → s'.heap.get? s.heap.objs.size = some (tupO [.str w t, u]) → R (.ref s.heap.objs.size) s') :
    wpAny (model X.prog X.w) X.A (eval (.Tuple [.Constant (.str w) j c, .Name x a] k p) X.env) R E s := by
  refine Tuple_ ?_
  rw [hst]
  show wpAny _ _ (spliced ((false, eval (.Constant (.str w) j c) X.env) :: [(false, eval (.Name x a) X.env)])) _ _ _
  exact Calls.spliced_cons (Calls.Constant_str (Calls.spliced_cons ((K.tok _).load (I.tok _) (Calls.spliced_nil (wpAny_newTuple (fin _ _ .push (Heap.get?_push_size _ rfl)) (by show 2 ≤ sizeLine; decide))) hd)))
theorem tup_w3 {pins : List (Addr × Obj)} {σ : L2.St} {H : Hp} (I : Inv X pins σ H s) (K : Holds X s x u) (K2 : Holds X s y v) (hd : (x == ("__debug__" : Str)) = false) (hd2 : (y == ("__debug__" : Str)) = false)
    (hst : starEach [.Constant (.str w) j c, .Name x a, .Name y b] X.env = [(false, eval (.Constant (.str w) j c) X.env), (false, eval (.Name x a) X.env), (false, eval (.Name y b) X.env)])
    (fin : ∀ s' t, Nw X s s' → s'.heap.get? s.heap.objs.size = some (tupO [.str w t, u, v]) → R (.ref s.heap.objs.size) s') :
    wpAny (model X.prog X.w) X.A (eval (.Tuple [.Constant (.str w) j c, .Name x a, .Name y b] k p) X.env) R E s := by
  refine Tuple_ ?_
  rw [hst]
  show wpAny _ _ (spliced ((false, eval (.Constant (.str w) j c) X.env) :: (false, eval (.Name x a) X.env) :: [(false, eval (.Name y b) X.env)])) _ _ _
  exact Calls.spliced_cons (Calls.Constant_str (Calls.spliced_cons ((K.tok _).load (I.tok _) (Calls.spliced_cons ((K2.tok _).load (I.tok _) (Calls.spliced_nil (wpAny_newTuple (fin _ _ .push (Heap.get?_push_size _ rfl)) (by show 3 ≤ sizeLine; decide))) hd2)) hd)))
end
/-- [('lower',), ('swap', one, two), (), ('lead', one), ('once', one), cut][way] -/
theorem six_ret {X : Cx} {pins : List (Addr × Obj)} {σ : L2.St} {H : Hp} {s : Shared} {R : Value → Shared → Prop} {iw ic : Nat} {wx ox tx cx : Str} {k2 k3 k4 k5 k6 : Nat} {j2 j3 j4 j5 : Nat} {d1 d2 d3 d4 d5 d6 d7 d8 d9 d10 d11 d12 d13 d14 d15 d16 d17 : Pos} {c d : Str} {t t2 : Tok} {n : Int} {q : Addr}
    (hw : X.N[iw]? = some wx) (hcu : X.N[ic]? = some cx) (lw : X.env.scope.names.lookup wx = some .local) (lc : X.env.scope.names.lookup cx = some .local) (I : Inv X pins σ H s) (Ko : Holds X s ox (.str c t)) (Kt : Holds X s tx (.str d t2))
    (sw : σ[iw]? = some (some (.int n))) (sc : σ[ic]? = some (some (.ref q))) (n0 : 0 ≤ n) (n6 : n < 6) (ne2 : n ≠ 2)
    (dw : (wx == ("__debug__" : Str)) = false) (dO : (ox == ("__debug__" : Str)) = false) (dt : (tx == ("__debug__" : Str)) = false) (dc : (cx == ("__debug__" : Str)) = false)
    (hs1 : starEach [.Constant (.str "lower") j2 d1] X.env = [(false, eval (.Constant (.str "lower") j2 d1) X.env)])
    (hs2 : starEach [.Constant (.str "swap") j3 d3, .Name ox d4, .Name tx d5] X.env = [(false, eval (.Constant (.str "swap") j3 d3) X.env), (false, eval (.Name ox d4) X.env), (false, eval (.Name tx d5) X.env)])
    (hs3 : starEach [.Constant (.str "lead") j4 d8, .Name ox d9] X.env = [(false, eval (.Constant (.str "lead") j4 d8) X.env), (false, eval (.Name ox d9) X.env)])
    (hs4 : starEach [.Constant (.str "once") j5 d11, .Name ox d12] X.env = [(false, eval (.Constant (.str "once") j5 d11) X.env), (false, eval (.Name ox d12) X.env)])
    (hs6 : starEach [.Tuple [.Constant (.str "lower") j2 d1] k2 d2, .Tuple [.Constant (.str "swap") j3 d3, .Name ox d4, .Name tx d5] k3 d6, .Tuple [] k4 d7, .Tuple [.Constant (.str "lead") j4 d8, .Name ox d9] k5 d10, .Tuple [.Constant (.str "once") j5 d11, .Name ox d12] k6 d13, .Name cx d14] X.env =
      [(false, eval (.Tuple [.Constant (.str "lower") j2 d1] k2 d2) X.env), (false, eval (.Tuple [.Constant (.str "swap") j3 d3, .Name ox d4, .Name tx d5] k3 d6) X.env), (false, eval (.Tuple [] k4 d7) X.env), (false, eval (.Tuple [.Constant (.str "lead") j4 d8, .Name ox d9] k5 d10) X.env), (false, eval (.Tuple [.Constant (.str "once") j5 d11, .Name ox d12] k6 d13) X.env), (false, eval (.Name cx d14) X.env)])
    (pix : PlainIx (.Name wx d16))
    (f5 : n = 5 → ∀ s', Inv X pins σ H s' → R (.ref q) s')
    (f0 : n = 0 → ∀ p s', H p = none → Inv X pins σ (upd H p (.tup [.str "lower"])) s' → R (.ref p) s')
    (f1 : n = 1 → ∀ p t0 s', H p = none → Inv X pins σ (upd H p (.frz (tupO [.str "swap" t0, .str c t, .str d t2]) (.tup [.str "swap", .str c, .str d]))) s' → R (.ref p) s')
    (f3 : n = 3 → ∀ p s', H p = none → Inv X pins σ (upd H p (.tup [.str "lead", .str c])) s' → R (.ref p) s')
    (f4 : n = 4 → ∀ p t0 s', H p = none → Inv X pins σ (upd H p (.frz (tupO [.str "once" t0, .str c t]) (.tup [.str "once", .str c]))) s' → R (.ref p) s') :
    wpAny (model X.prog X.w) X.A (eval (.Subscript (.List [.Tuple [.Constant (.str "lower") j2 d1] k2 d2, .Tuple [.Constant (.str "swap") j3 d3, .Name ox d4, .Name tx d5] k3 d6, .Tuple [] k4 d7, .Tuple [.Constant (.str "lead") j4 d8, .Name ox d9] k5 d10, .Tuple [.Constant (.str "once") j5 d11, .Name ox d12] k6 d13, .Name cx d14] d15) (.Name wx d16) d17) X.env) R X.xe s := by
  refine Subscript_ (wpAny_List_spliced ?_)
  rw [hs6]
  show wpAny _ _ (spliced ((false, eval (.Tuple [.Constant (.str "lower") j2 d1] k2 d2) X.env) :: (false, eval (.Tuple [.Constant (.str "swap") j3 d3, .Name ox d4, .Name tx d5] k3 d6) X.env) :: (false, eval (.Tuple [] k4 d7) X.env) :: (false, eval (.Tuple [.Constant (.str "lead") j4 d8, .Name ox d9] k5 d10) X.env) :: (false, eval (.Tuple [.Constant (.str "once") j5 d11, .Name ox d12] k6 d13) X.env) :: [(false, eval (.Name cx d14) X.env)])) _ _ _
  refine Calls.spliced_cons (tup_w1 hs1 fun s1 tk1 N1 g1 => ?_)
  refine Calls.spliced_cons (tup_w3 (N1.inv I) (Ko.up N1.k) (Kt.up N1.k) dO dt hs2 fun s2 tk2 N2 g2 => ?_)
  have M2 := N1.trans N2
  refine Calls.spliced_cons (tup_w0 fun s3 N3 => ?_)
  have M3 := M2.trans N3
  refine Calls.spliced_cons (tup_w2 (M3.inv I) (Ko.up M3.k) dO hs3 fun s4 tk4 N4 g4 => ?_)
  have M4 := M3.trans N4
  refine Calls.spliced_cons (tup_w2 (M4.inv I) (Ko.up M4.k) dO hs4 fun s5 tk5 N5 g5 => ?_)
  have M5 := M4.trans N5
  refine Calls.spliced_cons (name_ref hcu lc (M5.inv I) sc (Calls.spliced_nil ⟨by show 6 ≤ sizeLine; decide, ?_⟩) dc)
  have gl : (s5.heap.push { cls := .type "list", data := .seq [Value.ref s.heap.objs.size, .ref s1.heap.objs.size, .ref s2.heap.objs.size, .ref s3.heap.objs.size, .ref s4.heap.objs.size, .ref q].toArray }).get? s5.heap.objs.size = some { cls := .type "list", data := .seq [Value.ref s.heap.objs.size, .ref s1.heap.objs.size, .ref s2.heap.objs.size, .ref s3.heap.objs.size, .ref s4.heap.objs.size, .ref q].toArray } := Heap.get?_push_size _ rfl
  have N6 : Nw X s5 { s5 with heap := s5.heap.push { cls := .type "list", data := .seq [Value.ref s.heap.objs.size, .ref s1.heap.objs.size, .ref s2.heap.objs.size, .ref s3.heap.objs.size, .ref s4.heap.objs.size, .ref q].toArray } } := .push
  generalize hs6' : ({ s5 with heap := s5.heap.push { cls := .type "list", data := .seq [Value.ref s.heap.objs.size, .ref s1.heap.objs.size, .ref s2.heap.objs.size, .ref s3.heap.objs.size, .ref s4.heap.objs.size, .ref q].toArray } } : Shared) = s6 at N6 ⊢
  replace gl : s6.heap.get? s5.heap.objs.size = some { cls := .type "list", data := .seq [Value.ref s.heap.objs.size, .ref s1.heap.objs.size, .ref s2.heap.objs.size, .ref s3.heap.objs.size, .ref s4.heap.objs.size, .ref q].toArray } := by rw [← hs6']; exact gl
  clear hs6'
  have M6 := M5.trans N6
  have lst : s6.heap.IsList s5.heap.objs.size #[Value.ref s.heap.objs.size, .ref s1.heap.objs.size, .ref s2.heap.objs.size, .ref s3.heap.objs.size, .ref s4.heap.objs.size, .ref q] := ⟨_, gl, rfl, _, rfl⟩
  refine name_int hw lw (M6.inv I) sw (fun tw => ?_) dw
  have key : ∀ {p : Addr}, s.heap.objs.size ≤ p → H p = none := fun l => I.hok.fresh l
  have lay : ∀ {p : Addr} {o : HO}, s.heap.objs.size ≤ p → ObjOk X.prog X.w (upd H p o) s6.heap p o → Inv X pins σ (upd H p o) s6 := fun {p o} l w => by
    have z := I.laid (t' := s6.toks) (h' := s6.heap) M6.k l w
    rw [M6.eq]
    exact z
  have nn5 : n = 0 ∨ n = 1 ∨ n = 3 ∨ n = 4 ∨ n = 5 := by omega
  have l2 : 1 ≤ sizeLine ∧ 2 ≤ sizeLine ∧ 3 ≤ sizeLine := by decide
  rcases nn5 with rfl | rfl | rfl | rfl | rfl
  · refine item_listR lst (by decide) (by decide) (x := .ref s.heap.objs.size) rfl (f0 rfl _ _ (key (Nat.le_refl _)) (lay (Nat.le_refl _) ⟨l2.1, [.str "lower" tk1], .cons ⟨_, rfl⟩ .nil, ⟨_, ((((N2.trans N3).trans N4).trans N5).trans N6).k _ _ g1, rfl, _, rfl⟩⟩)) (pix _ _)
  · refine item_listR lst (by decide) (by decide) (x := .ref s1.heap.objs.size) rfl (f1 rfl _ tk2 _ (key N1.sz) (lay N1.sz ?_)) (pix _ _)
    have g := (((N3.trans N4).trans N5).trans N6).k _ _ g2
    exact ⟨g, l2.2.2, [.str "swap" tk2, .str c t, .str d t2], .cons ⟨_, rfl⟩ (.cons ⟨_, rfl⟩ (.cons ⟨_, rfl⟩ .nil)), ⟨_, g, rfl, _, rfl⟩⟩
  · exact item_listR lst (by decide) (by decide) (x := .ref s3.heap.objs.size) rfl (f3 rfl _ _ (key M3.sz) (lay M3.sz ⟨l2.2.1, [.str "lead" tk4, .str c t], .cons ⟨_, rfl⟩ (.cons ⟨_, rfl⟩ .nil), ⟨_, (N5.trans N6).k _ _ g4, rfl, _, rfl⟩⟩)) (pix _ _)
  · refine item_listR lst (by decide) (by decide) (x := .ref s4.heap.objs.size) rfl (f4 rfl _ tk5 _ (key M4.sz) (lay M4.sz ?_)) (pix _ _)
    have g := N6.k _ _ g5
    exact ⟨g, l2.2.1, [.str "once" tk5, .str c t], .cons ⟨_, rfl⟩ (.cons ⟨_, rfl⟩ .nil), ⟨_, g, rfl, _, rfl⟩⟩
  · exact item_listR lst (by decide) (by decide) (x := .ref q) rfl (f5 rfl _ (M6.inv I)) (pix _ _)
set_option maxHeartbeats 8000000 in
theorem pss_six {X : Cx} {iw io it ic ig : Nat} {wx ox tx cx gx : Str} {e1 idx idx2 ec : Expr} {t1 ti ti2 tc : TE} {t0 : TS} {r0 : List Stmt} {k0 k1 k2 k3 k4 k5 k6 k7 : Nat} {j0 j1 j2 j3 j4 j5 : Nat}
    {a1 a2 a3 a4 a5 a6 a7 a8 a9 a10 b1 b2 b3 b4 c1 c2 c3 c4 d1 d2 d3 d4 d5 d6 d7 d8 d9 d10 d11 d12 d13 d14 d15 d16 d17 d18 : Pos} (hc : X.calm = true) (hN : X.N.Nodup)
    (hw : X.N[iw]? = some wx) (ho : X.N[io]? = some ox) (ht : X.N[it]? = some tx) (hcu : X.N[ic]? = some cx) (hg : X.N[ig]? = some gx) (n1 : iw ≠ io) (n2 : iw ≠ it) (n3 : io ≠ it) (n4 : ic ≠ iw) (n5 : ic ≠ io) (n6 : ic ≠ it)
    (lw : X.env.scope.names.lookup wx = some .local) (lo : X.env.scope.names.lookup ox = some .local) (lt : X.env.scope.names.lookup tx = some .local) (lc : X.env.scope.names.lookup cx = some .local) (lg : X.env.scope.names.lookup gx = some .local)
    (h1 : PE X e1 t1) (hi : PE X idx ti) (hi2 : PE X idx2 ti2) (p1 : PlainIx idx) (p2 : PlainIx idx2) (h0 : PSs X r0 t0) (hec : PEH X ec tc)
    (dw : (wx == ("__debug__" : Str)) = false) (dO : (ox == ("__debug__" : Str)) = false) (dt : (tx == ("__debug__" : Str)) = false) (dc : (cx == ("__debug__" : Str)) = false) (dg : (gx == ("__debug__" : Str)) = false)
    (hst : starEach [e1, .Subscript (.Name gx a1) idx a2, .Subscript (.Name gx a3) idx2 a4] X.env = [(false, eval e1 X.env), (false, eval (.Subscript (.Name gx a1) idx a2) X.env), (false, eval (.Subscript (.Name gx a3) idx2 a4) X.env)])
    (hsc : starEach [.Constant (.str "cut") j1 c1, ec] X.env = [(false, eval (.Constant (.str "cut") j1 c1) X.env), (false, eval ec X.env)])
    (hs1 : starEach [.Constant (.str "lower") j2 d1] X.env = [(false, eval (.Constant (.str "lower") j2 d1) X.env)])
    (hs2 : starEach [.Constant (.str "swap") j3 d3, .Name ox d4, .Name tx d5] X.env = [(false, eval (.Constant (.str "swap") j3 d3) X.env), (false, eval (.Name ox d4) X.env), (false, eval (.Name tx d5) X.env)])
    (hs3 : starEach [.Constant (.str "lead") j4 d8, .Name ox d9] X.env = [(false, eval (.Constant (.str "lead") j4 d8) X.env), (false, eval (.Name ox d9) X.env)])
    (hs4 : starEach [.Constant (.str "once") j5 d11, .Name ox d12] X.env = [(false, eval (.Constant (.str "once") j5 d11) X.env), (false, eval (.Name ox d12) X.env)])
    (hs6 : starEach [.Tuple [.Constant (.str "lower") j2 d1] k2 d2, .Tuple [.Constant (.str "swap") j3 d3, .Name ox d4, .Name tx d5] k3 d6, .Tuple [] k4 d7, .Tuple [.Constant (.str "lead") j4 d8, .Name ox d9] k5 d10, .Tuple [.Constant (.str "once") j5 d11, .Name ox d12] k6 d13, .Name cx d14] X.env =
      [(false, eval (.Tuple [.Constant (.str "lower") j2 d1] k2 d2) X.env), (false, eval (.Tuple [.Constant (.str "swap") j3 d3, .Name ox d4, .Name tx d5] k3 d6) X.env), (false, eval (.Tuple [] k4 d7) X.env), (false, eval (.Tuple [.Constant (.str "lead") j4 d8, .Name ox d9] k5 d10) X.env), (false, eval (.Tuple [.Constant (.str "once") j5 d11, .Name ox d12] k6 d13) X.env), (false, eval (.Name cx d14) X.env)])
    (hsw : swappedStores [.Tuple [.Name wx a5, .Name ox a6, .Name tx a7] k0 a8] (.Tuple [e1, .Subscript (.Name gx a1) idx a2, .Subscript (.Name gx a3) idx2 a4] k1 a9) X.env = pure (some [wx, ox, tx]))
    (hss : swapsWithSole [.Tuple [.Name wx a5, .Name ox a6, .Name tx a7] k0 a8] (.Tuple [e1, .Subscript (.Name gx a1) idx a2, .Subscript (.Name gx a3) idx2 a4] k1 a9) a10.line X.env = pure false)
    (hcs : swapsWith (.Tuple [.Constant (.str "cut") j1 c1, ec] k7 c2) (some (.Name cx c3)) c4.line X.env = pure false) (pix : PlainIx (.Name wx d16)) :
    PSs X [.Assign [.Tuple [.Name wx a5, .Name ox a6, .Name tx a7] k0 a8] (.Tuple [e1, .Subscript (.Name gx a1) idx a2, .Subscript (.Name gx a3) idx2 a4] k1 a9) a10,
      .If (.Compare (.Name wx b1) [.Eq] [.Constant (.int 2) j0 b2] b3) r0 [] b4,
      .Assign [.Name cx c3] (.Tuple [.Constant (.str "cut") j1 c1, ec] k7 c2) c4,
      .Return (some (.Subscript (.List [.Tuple [.Constant (.str "lower") j2 d1] k2 d2, .Tuple [.Constant (.str "swap") j3 d3, .Name ox d4, .Name tx d5] k3 d6, .Tuple [] k4 d7, .Tuple [.Constant (.str "lead") j4 d8, .Name ox d9] k5 d10, .Tuple [.Constant (.str "once") j5 d11, .Name ox d12] k6 d13, .Name cx d14] d15) (.Name wx d16) d17)) d18]
      (tSix iw io it ic ig t1 ti ti2 tc t0) := by
  constructor
  intro pins s σ H D I h
  refine wpAny_execs_cons ?_
  rw [exec_Assign_arm]
  refine wpAny_bind (wpAny_standAt ?_)
  rw [hss]
  refine wpAny_bind (wpAny_pure ?_)
  rw [if_neg (by decide)]
  refine wpAny_bind (Tuple_ ?_)
  rw [hst]
  show wpAny _ _ (spliced ((false, eval e1 X.env) :: (false, eval (.Subscript (.Name gx a1) idx a2) X.env) :: [(false, eval (.Subscript (.Name gx a3) idx2 a4) X.env)])) _ _ s
  refine Calls.spliced_cons (thn (h1.run pins s σ H _ I h) ?_)
  rintro u1 s1 ⟨x, H1, I1, r1, n, a, cs, b, rfl, hn0, hn6, hσ, hz, ⟨its, nn, m, k, hf, tk, hm, hkb⟩, h2⟩
  refine Calls.spliced_cons (pick_raw (n := nn) hg lg I1 hσ hi p1 tk hz h2 ?_ dg)
  rintro y H2 ⟨i, c, rfl, ha, h0', hcs', h3⟩
  refine ⟨i, c, rfl, ha.trans hf, h0', hcs', fun s2 t I2 e2 hmt _ => ?_⟩
  refine Calls.spliced_cons (pick_raw (n := nn) hg lg I2 hσ hi2 p2 tk hz h3 ?_ dg)
  rintro y2 H3 ⟨j, d, rfl, ha3, hj, hd, w2, wn⟩
  refine ⟨j, d, rfl, ha3.trans (ha.trans hf), hj, hd, fun s3 t2 I3 e3 hmt2 _ => Calls.spliced_nil ?_⟩
  obtain ⟨tn, rfl⟩ := r1
  refine wpAny_newObj_type ?_ (by show 3 ≤ sizeLine; decide)
  have I4 : Inv X pins σ H3 { s3 with heap := s3.heap.push { cls := .type "tuple", data := .seq [Value.int n tn, .str c t, .str d t2].toArray } } := I3.kept (t' := s3.toks) fun b o e => Heap.get?_push_of_some _ e
  rw [hsw]
  refine wpAny_bind (wpAny_pure ?_)
  show wpAny (model X.prog X.w) X.A (do rule "assign.swapped-stores"; let items ← unpackItems (.ref s3.heap.objs.size) 3 none; assignInOrder [fun v => bindName X.env tx v, fun v => bindName X.env ox v, fun v => bindName X.env wx v] items.reverse; pure Flow.next) _ _ _
  refine wpAny_bind (wpAny_rule (wpAny_bind (unpackItems_tuple (items := #[Value.int n tn, .str c t, .str d t2]) (I.ok.hd hc) (IsTup.new s3.heap _) fun g hx' => ?_)))
  have I5 := I4.kept (h' := g) (t' := s3.toks) fun b o e => hx' b o (Nat.ne_of_lt (Heap.lt_size e)) e
  show wpAny _ _ (assignInOrder [fun v => bindName X.env tx v, fun v => bindName X.env ox v, fun v => bindName X.env wx v] [Value.str d t2, .str c t, .int n tn] >>= fun _ => pure Flow.next) _ _ _
  refine wpAny_bind (assignInOrder_cons (wpAny_bindName (store_raw (v := V.str d) I5 hN ht lt ⟨t2, rfl⟩ fun s5 I6 K6 _ _ => ?_)))
  refine assignInOrder_cons (wpAny_bindName (store_raw (v := V.str c) I6 hN ho lo ⟨t, rfl⟩ fun s6 I7 K7 keep7 _ => ?_))
  refine assignInOrder_cons (wpAny_bindName (store_raw (v := V.int n) I7 hN hw lw ⟨tn, rfl⟩ fun s7 I8 _ keep8 _ => assignInOrder_nil (wpAny_pure ?_)))
  have neq : ∀ {p q : Nat} {z z' : Str}, X.N[p]? = some z → X.N[q]? = some z' → p ≠ q → z ≠ z' := fun e1 e2 ne e => ne (nodup_ix hN e1 (e ▸ e2))
  have Kt : Holds X s7 tx (.str d t2) := keep8 tx _ (neq ht hw (Ne.symm n2)) (keep7 tx _ (neq ht ho (Ne.symm n3)) K6)
  have Ko : Holds X s7 ox (.str c t) := keep8 ox _ (neq ho hw (Ne.symm n1)) K7
  rw [List.set_comm _ _ (Ne.symm n3), List.set_comm _ _ (Ne.symm n2), List.set_comm _ _ (Ne.symm n1)] at I8
  have hl : σ.length = X.N.length := I.len
  have bd : ∀ {p : Nat} {z : Str}, X.N[p]? = some z → p < σ.length := fun e => by rw [hl]; exact (List.getElem?_eq_some_iff.mp e).1
  have sw : (((σ.set iw (some (V.int n))).set io (some (.str c))).set it (some (.str d)))[iw]? = some (some (.int n)) := by
    rw [List.getElem?_set_ne (Ne.symm n2), List.getElem?_set_ne (Ne.symm n1), List.getElem?_set_self (bd hw)]
  have lσ : (((σ.set iw (some (V.int n))).set io (some (.str c))).set it (some (.str d))).length = σ.length := by simp
  generalize hS : ((σ.set iw (some (V.int n))).set io (some (V.str c))).set it (some (V.str d)) = σ' at *
  -- if way == 2
  refine wpAny_execs_cons (wpAny_If (test_int hw lw I8 sw ?_ dw))
  by_cases e0 : n = 2
  · have e : (n == 2) = true := by simp [e0]
    rw [e]
    refine thn (h0.run pins _ σ' H3 _ (I8.tok _) (w2 e0)) fun f s9 q => ?_
    cases f with
    | next => obtain ⟨_, _, _, z⟩ := q; exact z.elim
    | ret v => exact q
    | brk => exact q
    | cont => exact q
  have e : (n == 2) = false := by simp [e0]
  rw [e]
  refine wpAny_execs_nil ?_
  -- cut = ..
  refine wpAny_execs_cons (wpAny_Assign_Name (Tuple_ ?_) hcs)
  rw [hsc]
  show wpAny _ _ (spliced ((false, eval (.Constant (.str "cut") j1 c1) X.env) :: [(false, eval ec X.env)])) _ _ _
  refine Calls.spliced_cons (Calls.Constant_str (Calls.spliced_cons ?_))
  refine thn (hec.run pins _ σ' H3 _ ((I8.tok _).tok _) (wn e0)) ?_
  rintro uc s10 ⟨⟨z, H4, I10, rz, mm, rfl, fin⟩, kh⟩
  obtain ⟨tm, rfl⟩ := rz
  have Kt10 : Holds X s10 tx (.str d t2) := kh tx _ ((Kt.tok _).tok _)
  have Ko10 : Holds X s10 ox (.str c t) := kh ox _ ((Ko.tok _).tok _)
  refine Calls.spliced_nil (wpAny_newTuple ?_ (by show 2 ≤ sizeLine; decide))
  have nq : H4 s10.heap.objs.size = none := I10.hok.fresh (Nat.le_refl _)
  obtain ⟨f5, fp⟩ := fin _ nq
  have I11 : Inv X pins σ' (upd H4 s10.heap.objs.size (.tup [.str "cut", .int mm])) { s10 with heap := s10.heap.push { cls := .type "tuple", data := .seq [Value.str "cut" (s7.toks + 1), .int mm tm].toArray } } :=
    I10.laid (t' := s10.toks) (fun b o q => Heap.get?_push_of_some _ q) (Nat.le_refl _) ⟨by show 2 ≤ sizeLine; decide, [.str "cut" _, .int mm tm], .cons ⟨_, rfl⟩ (.cons ⟨_, rfl⟩ .nil), ⟨_, Heap.get?_push_size _ rfl, rfl, _, rfl⟩⟩
  generalize hq : s10.heap.objs.size = q at *
  have Kt11 := Kt10.up (s' := { s10 with heap := s10.heap.push { cls := .type "tuple", data := .seq [Value.str "cut" (s7.toks + 1), .int mm tm].toArray } }) fun b o z => Heap.get?_push_of_some _ z
  have Ko11 := Ko10.up (s' := { s10 with heap := s10.heap.push { cls := .type "tuple", data := .seq [Value.str "cut" (s7.toks + 1), .int mm tm].toArray } }) fun b o z => Heap.get?_push_of_some _ z
  refine store_raw (v := V.ref q) I11 hN hcu lc rfl fun s12 I12 _ keep12 _ => ?_
  have Kt12 : Holds X s12 tx (.str d t2) := keep12 tx _ (neq ht hcu (Ne.symm n6)) Kt11
  have Ko12 : Holds X s12 ox (.str c t) := keep12 ox _ (neq ho hcu (Ne.symm n5)) Ko11
  have scu : (σ'.set ic (some (V.ref q)))[ic]? = some (some (.ref q)) := List.getElem?_set_self (by rw [lσ]; exact bd hcu)
  have sw12 : (σ'.set ic (some (V.ref q)))[iw]? = some (some (.int n)) := by rw [List.getElem?_set_ne n4]; exact sw
  -- return [..][way]
  obtain ⟨mt1, mt2⟩ := tk.got hcs' e2
  obtain ⟨mu1, mu2⟩ := tk.got hd e3
  have t0 : t ≠ 0 := Nat.ne_of_gt (Nat.lt_of_lt_of_le hm mt1)
  have u0 : t2 ≠ 0 := Nat.ne_of_gt (Nat.lt_of_lt_of_le hm mu1)
  have tu : t = t2 → c = d := fun z => by subst z; exact tk.inj e2 e3
  have spl : ∀ {p : Addr}, (upd H4 q (.tup [V.str "cut", .int mm])) p = none → p ≠ q ∧ H4 p = none := fun {p} z => by
    have ne : p ≠ q := by rintro rfl; rw [upd_same] at z; cases z
    exact ⟨ne, by rw [upd_ne ne] at z; exact z⟩
  refine wpAny_execs_cons (wpAny_Return_some (six_ret hw hcu lw lc I12 Ko12 Kt12 sw12 scu hn0 hn6 e0 dw dO dt dc hs1 hs2 hs3 hs4 hs6 pix ?_ ?_ ?_ ?_ ?_))
  · exact fun e s' J => ⟨.ref q, _, _, J, rfl, f5 e⟩
  · intro e p s' hp J
    obtain ⟨ne, hp'⟩ := spl hp
    exact ⟨.ref p, _, _, J, rfl, (fp p ne hp').1 e⟩
  · intro e p tk0 s' hp J
    obtain ⟨ne, hp'⟩ := spl hp
    exact ⟨.ref p, _, _, J, rfl, (fp p ne hp').2.1 e _ ⟨0, tk0, t, t2, upd_same, t0, u0, tu⟩ fun b' hb' => upd_ne hb'⟩
  · intro e p s' hp J
    obtain ⟨ne, hp'⟩ := spl hp
    exact ⟨.ref p, _, _, J, rfl, (fp p ne hp').2.2.1 e⟩
  · intro e p tk0 s' hp J
    obtain ⟨ne, hp'⟩ := spl hp
    exact ⟨.ref p, _, _, J, rfl, (fp p ne hp').2.2.2 e _ ⟨0, tk0, t, upd_same, t0, Nat.lt_of_lt_of_le mt2 hkb⟩ fun b' hb' => upd_ne hb'⟩
end Pd

set_option maxHeartbeats 4000000
namespace Pd
open PySem PySem.Spec PyProof.Rows L2
/-! ### defs that tell a number below which no token is to come -/
abbrev SpU := List V → Hp → (Nat → VK) → Prop
def FnU (P : Program) (w : World) (K : PySem.W.Frag) (mg : Str → Option Value) (base : Heap) (k : Nat) (f : Addr) (sp : SpU) : Prop :=
  ∀ (A : Around) (outer : List Env) (s : Shared) (H : Hp) (us : List Value) (vs : List V) (Q : Nat → VK) (E : XK), Room k A → Env0 P w K mg base A outer s H → Vals vs us → sp vs H Q →
    codeAny (model P w) A (.call (.ref f) ⟨us, []⟩) (fun r s' => ∃ b, b ≤ s'.toks ∧ CR CX0 outer P w H s (Q b) E r s') s
theorem CR.mono {outer : List Env} {P : Program} {w : World} {H : Hp} {s s' : Shared} {Q Q' : VK} {E : XK} {r : Result} (h : CR CX0 outer P w H s Q E r s') (k : ∀ v H', Q v H' → Q' v H') : CR CX0 outer P w H s Q' E r s' := by
  cases r with
  | error e => exact h
  | ok fl =>
    cases fl with
    | ret u =>
      obtain ⟨v, H', a, b, c, d, e, q⟩ := (show CE outer P w H s Q u s' from h)
      exact (show CE outer P w H s Q' u s' from ⟨v, H', a, b, c, d, e, k v H' q⟩)
    | next => exact h
    | brk => exact h
    | cont => exact h
theorem FnU.fnR {P : Program} {w : World} {K : PySem.W.Frag} {mg : Str → Option Value} {base : Heap} {k : Nat} {f : Addr} {sp : SpU} (F : FnU P w K mg base k f sp) : FnR P w K mg base CX0 k f (fun vs H Q _ => sp vs H fun _ => Q) :=
  fun A outer s H us vs Q E hr e0 r h => codeAny_mono (F A outer s H us vs (fun _ => Q) E hr e0 r h) fun _ _ ⟨_, _, z⟩ => z
/-- a body that returns -/
structure PSsU (X : Cx) (sts : List Stmt) (t : L2.St → Hp → (Nat → VK) → Prop) : Prop where
  run : ∀ (pins : List (Addr × Obj)) (s : Shared) (σ : L2.St) (H : Hp) (Q : Nat → VK), Inv X pins σ H s → t σ H Q →
    wpAny (model X.prog X.w) X.A (execs sts X.env) (fun f s' => ∃ u, f = .ret u ∧ ∃ v σ' H' b, Inv X pins σ' H' s' ∧ RelV v u ∧ b ≤ s'.toks ∧ Q b v H') X.xe s
theorem fnU_of {P : Program} {w : World} {K : PySem.W.Frag} {mg : Str → Option Value} {base : Heap} {x qual : Str} {st : Stmt} {f : Addr} {fd : FuncData} {N ps : List Str} {k : Nat} {sp : SpU}
    (F : Fun K x qual st f fd) (S : FnScope N ps (defScope st))
    (hb : ∀ (kV doc pm : Value) (an : Option Addr) (cdv ct : Value) (us : List Value), us.length = ps.length → bindArgs (PySem.W.fnOf x qual (defArgs st) (defBody st) (defScope st) .none kV doc pm an cdv ct) ⟨us, []⟩ = pure (ps.zip us))
    (len : ∀ vs H Q, sp vs H Q → vs.length = ps.length)
    (hbody : ∀ (cdv : Value) (A : Around) (outer : List Env) (s : Shared) (H : Hp) (vs : List V) (Q : Nat → VK) (E : XK), Room k (A.deeper (envOfC qual (defScope st) s.heap.objs.size f cdv)) → sp vs H Q →
      ∃ t, PSsU (cxOf CX0 P w K mg base N qual (defScope st) f cdv A outer s H E) (defBody st) t ∧ t (start N vs) H Q) : FnU P w K mg base (k + 1) f sp := by
  obtain ⟨oc, od, kV, doc, pm, an, cdv, ct, osl, rfl, lk, hcd⟩ := F.ex
  intro A outer s H us vs Q E hr e0 r hsp
  have hl : us.length = ps.length := r.length.symm.trans (len _ _ _ hsp)
  have KX : K.In s.heap := e0.mod.kin.keeps fun b o e => (e0.bs b o e).1
  have lim : s.heap.NoLimit := e0.mod.nolimit.keeps fun b o e => (e0.bs b o e).1
  have hkind : ∀ y ∈ ps.zip us, (defScope st).names.lookup y.1 = some .local ∨ ((defScope st).names.lookup y.1 = some .cell ∧ ((cellsFrom (s.heap.objs.size + 1) (defScope st).names []).lookup y.1).isSome = true) := fun y hy => by
    rcases S.par y.1 (List.of_mem_zip hy).1 with q | q
    · exact .inl q
    · exact .inr ⟨q, PySem.W.cellsFrom_some _ _ _ (.inl q)⟩
  refine codeAny_call_function hr.depth (KX _ _ lk) rfl S.co S.gen rfl (PySem.W.codeRec_of KX hcd) (BindsTo.of_eq (hb kV doc pm an cdv ct us hl) _ _ _ _ ?_)
  refine wpAny_mono (wpAny_newFunctionEnv_cells S.kind hkind fun env he s1 x => (⟨he, x⟩ : env = _ ∧ InCallC s _ _ _ _ s1)) ?_ fun _ _ z => z
  rintro env s1 ⟨rfl, x⟩
  refine ⟨lim.keeps x.toInCall.keep, codeAny_func ?_⟩
  obtain ⟨t, he, hq⟩ := hbody cdv A outer s H vs Q E (hr.deeper _) hsp
  have I : Inv (cxOf CX0 P w K mg base N qual (defScope st) f cdv A outer s H E) [] (start N vs) H s1 := inv_start S hr.hd e0 (len _ _ _ hsp) r x
  refine wpAny_mono (he.run [] s1 _ H _ I hq) ?_ ?_
  · rintro fl s' ⟨u, rfl, v, σ', H', b, J, rv, lb, q⟩
    exact ⟨b, lb, (show CE outer P w H s (Q b) u s' from ⟨v, H', J.os, J.bare, J.base, J.hok, rv, q⟩)⟩
  · intro e s' h
    exact wpAny_mono h (fun _ _ h => ⟨0, Nat.zero_le _, h⟩) fun _ _ h => ⟨0, Nat.zero_le _, h⟩
/-- x = f(..), f tells a number: what follows may count on it -/
def tMark (i : Nat) (sp : SpU) (ta : TA) (u : Nat → TS) : TS := fun D σ H => ta σ H fun vs H1 => sp vs H1 fun b v H2 => u b D (σ.set i (some v)) H2
theorem pss_mark {X : Cx} {i k : Nat} {x y : Str} {f : Addr} {sp : SpU} {e : Expr} {es : List Expr} {ta : TA} {u : Nat → TS} {rest : List Stmt} {p p2 pos p3 : Pos} (hN : X.N.Nodup) (hi : X.N[i]? = some x) (hx : Loc X.env.scope x)
    (F : FnU X.prog X.w X.K X.mg X.base k f sp) (hr : Room k X.A) (hg : Gl X y) (hm : X.mg y = some (.ref f)) (hk : PySem.W.keepIn X.K (.ref f) = true) (ha : PA X (e :: es) ta) (hrest : ∀ b, PSsn b X rest (u b))
    (hs : swapsWith (.Call (.Name y p) (e :: es) [] pos) (some (.Name x p2)) p3.line X.env = pure false := by rfl) (hf : X.fn x = true ∨ X.env.scope.names.lookup x = some .local := by first | exact .inl rfl | exact .inr rfl | assumption)
    (hdb : (y == ("__debug__" : Str)) = false := by decide) (he : starEach (e :: es) X.env = (false, eval e X.env) :: starEach es X.env := by rfl) (hpl : (backTo pos (starEach es X.env)).any (·.1) = false := by rfl) :
    PSs X (.Assign [.Name x p2] (.Call (.Name y p) (e :: es) [] pos) p3 :: rest) (tMark i sp ta u) := by
  constructor
  intro pins s σ H D I h
  refine wpAny_execs_cons (wpAny_Assign_Name (wpAny_Call_Name_kw (ld_glob I hg hm ?_ hdb)) hs)
  refine PySem.W.callWith_K (h₀ := X.base) I.ok.mod.kin hk (thn (ha.run pos pins s σ H _ I h) ?_) he hpl
  rintro us s1 ⟨vs, H1, I1, r, q⟩
  refine ⟨I1.kIn, wpAny_call (codeAny_mono (F X.A X.stack s1 H1 us vs _ (fun _ _ _ => False) hr I1.env0 r q) fun r s' hq => ?_)⟩
  obtain ⟨b, lb, hq⟩ := hq
  cases r with
  | error e => exact pass0 pins σ H1 s1 e s' I1 hq
  | ok fl =>
    cases fl with
    | ret w =>
      obtain ⟨v, H', J, rv, q'⟩ := I1.after hq
      refine thk lb (store_ok (Q := fun _ s2 => Inv X pins (σ.set i (some v)) H' s2) J hN hi hx rv (fun s2 I2 => I2) hf) ?_
      exact fun _ s2 l2 I2 => (hrest b).run pins s2 _ H' D l2 I2 q'
    | next => exact False.elim hq
    | brk => exact False.elim hq
    | cont => exact False.elim hq
/-! ### letter = ..; return [letter, letter.upper(), .., .., ..] -/
def tFew (z : Str) (il : Nat) (tb t1 t2 t3 : TE) : L2.St → Hp → (Nat → VK) → Prop := fun σ H Q => tItemC z tb σ H fun v1 H1 => ∃ x1 : Str, v1 = .str x1 ∧ x1.length ≤ 1000 ∧
  t1 (σ.set il (some (.str x1))) H1 fun y1 H2 => ∃ c1 : Str, y1 = .str c1 ∧ t2 (σ.set il (some (.str x1))) H2 fun y2 H3 => ∃ c2 : Str, y2 = .str c2 ∧ t3 (σ.set il (some (.str x1))) H3 fun y3 H4 => ∃ c3 : Str, y3 = .str c3 ∧
    ∀ b p H5, H4 p = none → TxtsB b H5 p [x1, Txt.upper x1, c1, c2, c3] → (∀ b', b' ≠ p → H5 b' = H4 b') → Q b (.ref p) H5
theorem pss_few {X : Cx} {z : Str} {il : Nat} {lx : Str} {b1 e1 e2 e3 : Expr} {tb t1 t2 t3 : TE} {j1 : Nat} {a1 c1 d1 p1 q1 q2 q3 q4 d3 p3 : Pos} (hN : X.N.Nodup) (hl : X.N[il]? = some lx)
    (ll : X.env.scope.names.lookup lx = some .local) (h0 : PE X b1 tb) (s1 : PlainIxT b1) (h1 : PEF X e1 t1) (h2 : PEF X e2 t2) (h3 : PEF X e3 t3) (dl : (lx == ("__debug__" : Str)) = false)
    (hs1 : swapsWith (.Subscript (.Constant (.str z) j1 c1) b1 d1) (some (.Name lx a1)) p1.line X.env = pure false)
    (hst : starEach [.Name lx q1, .Call (.Attribute (.Name lx q2) "upper" q3) [] [] q4, e1, e2, e3] X.env =
      [(false, eval (.Name lx q1) X.env), (false, eval (.Call (.Attribute (.Name lx q2) "upper" q3) [] [] q4) X.env), (false, eval e1 X.env), (false, eval e2 X.env), (false, eval e3 X.env)])
    (hbase : attributeBase (.Name lx q2) "upper" X.env (eval (.Name lx q2) X.env) = eval (.Name lx q2) X.env) (hline : (q3.endLine == q4.line) = true) :
    PSsU X [.Assign [.Name lx a1] (.Subscript (.Constant (.str z) j1 c1) b1 d1) p1,
      .Return (some (.List [.Name lx q1, .Call (.Attribute (.Name lx q2) "upper" q3) [] [] q4, e1, e2, e3] d3)) p3] (tFew z il tb t1 t2 t3) := by
  constructor
  intro pins s σ H Q I h
  refine wpAny_execs_cons (wpAny_Assign_Name (thn ((pef_item h0 s1).run pins s σ H _ I h) ?_) hs1)
  rintro u1 t1' ⟨⟨v1, H1, I1, r1, x1, rfl, hx1, h'⟩, l1, y1, k1, rfl, k1a, k1b⟩
  obtain rfl : y1 = x1 := by obtain ⟨_, e⟩ := r1; injection e
  refine store_raw (v := V.str y1) I1 hN hl ll r1 fun t2' I2 K2 _ l2 => ?_
  refine wpAny_execs_cons (wpAny_Return_some (wpAny_List_spliced ?_))
  rw [hst]
  show wpAny _ _ (spliced ((false, eval (.Name lx q1) X.env) :: (false, eval (.Call (.Attribute (.Name lx q2) "upper" q3) [] [] q4) X.env) :: (false, eval e1 X.env) :: (false, eval e2 X.env) :: [(false, eval e3 X.env)])) _ _ _
  refine Calls.spliced_cons (K2.load I2 (Calls.spliced_cons ?_) dl)
  refine PySem.Call_method0 hbase hline (K2.load I2 ?_ dl)
  refine ⟨"str", _, F.plainAttrs_str, F.slot_str_upper, F.type_str_upper, typeIs_str _ _ _, (fun _ e => nomatch e), Calls.callWith_builtin rfl (PySem.evalArgs_none ?_)⟩
  have fit : Builtin.Str.tooLong (Txt.upper y1).length = false := PyProof.Rows.short24 (by have := PyProof.Rows.len_upper y1; omega)
  refine PySem.SC.upper fit (Calls.spliced_cons ?_)
  refine thn (h1.run pins _ _ H1 _ (I2.tok _) h') ?_
  rintro u3 t3' ⟨⟨w1, H2, I3, r3, c1', rfl, g2⟩, m1, z1, n1, rfl, n1a, n1b⟩
  obtain rfl : z1 = c1' := by obtain ⟨_, e⟩ := r3; injection e
  refine Calls.spliced_cons (thn (h2.run pins _ _ H2 _ I3 g2) ?_)
  rintro u4 t4' ⟨⟨w2, H3, I4, r4, c2', rfl, g3⟩, m2, z2, n2, rfl, n2a, n2b⟩
  obtain rfl : z2 = c2' := by obtain ⟨_, e⟩ := r4; injection e
  refine Calls.spliced_cons (thn (h3.run pins _ _ H3 _ I4 g3) ?_)
  rintro u5 t5' ⟨⟨w3, H4, I5, r5, c3', rfl, fin⟩, m3, z3, n3, rfl, n3a, n3b⟩
  obtain rfl : z3 = c3' := by obtain ⟨_, e⟩ := r5; injection e
  refine Calls.spliced_nil ⟨by show 5 ≤ sizeLine; decide, ?_⟩
  have tk : TkL (s.toks + 1) t5'.toks [y1, Txt.upper y1, z1, z2, z3] [.str y1 k1, .str (Txt.upper y1) t2'.toks, .str z1 n1, .str z2 n2, .str z3 n3] := by
    refine .cons (k := t2'.toks) k1a (Nat.lt_of_lt_of_le k1b l2) (.cons (k := t2'.toks + 1) (Nat.le_refl _) (Nat.lt_succ_self _) (.cons (k := t3'.toks) ?_ n1b (.cons (k := t4'.toks) ?_ n2b (.cons (k := t5'.toks) ?_ n3b (.nil (Nat.le_refl _))))))
    · exact Nat.le_of_succ_le n1a
    · exact Nat.le_of_succ_le n2a
    · exact Nat.le_of_succ_le n3a
  have new : H4 t5'.heap.objs.size = none := I5.hok.fresh (Nat.le_refl _)
  refine ⟨_, rfl, .ref t5'.heap.objs.size, σ.set il (some (V.str y1)), upd H4 t5'.heap.objs.size (.frz { cls := .type "list", data := .seq [Value.str y1 k1, .str (Txt.upper y1) t2'.toks, .str z1 n1, .str z2 n2, .str z3 n3].toArray } (.lst ([y1, Txt.upper y1, z1, z2, z3].map .str))), t5'.toks, ?_, rfl, Nat.le_refl _, ?_⟩
  · exact I5.laid (t' := t5'.toks) (fun b o q => Heap.get?_push_of_some _ q) (Nat.le_refl _) ⟨Heap.get?_push_size _ rfl, by show 5 ≤ sizeLine; decide, _, 0, tk.vals, Heap.get?_push_size _ rfl⟩
  · exact fin _ _ _ new ⟨_, 0, _, _, upd_same, tk, by omega, Nat.le_refl _⟩ fun b hb => upd_ne hb
end Pd

set_option maxHeartbeats 4000000
namespace Pd
open PySem PySem.Spec PyProof.Rows L2
/-! ### discard, of a set whose keys are a list -/
theorem perm_of_len {α : Type} [DecidableEq α] : ∀ {L ks : List α}, L.Nodup → (∀ k ∈ L, k ∈ ks) → ks.length ≤ L.length → ks.Perm L
  | [], ks, _, _, l => by
    rw [List.eq_nil_of_length_eq_zero (Nat.le_zero.mp l)]
  | a :: L, ks, nd, sub, l => by
    have ha := sub a (List.mem_cons_self ..)
    have p := List.perm_cons_erase ha
    obtain ⟨n1, n2⟩ := List.nodup_cons.mp nd
    have q : (ks.erase a).Perm L := perm_of_len n2 (fun k hk => (List.mem_erase_of_ne (by rintro rfl; exact n1 hk)).mpr (sub k (List.mem_cons_of_mem _ hk))) (by
      have := p.length_eq
      simp only [List.length_cons] at this l
      omega)
    exact p.trans (q.cons a)
theorem perm_at {α : Type} : ∀ {ks : List α} {i : Nat} {k : α}, ks[i]? = some k → (k :: ks.eraseIdx i).Perm ks
  | [], _, _, e => by simp at e
  | a :: ks, 0, k, e => by
    simp at e; subst e
    simp
  | a :: ks, i + 1, k, e => by
    have z := perm_at (ks := ks) (i := i) (k := k) (by simpa using e)
    rw [List.eraseIdx_cons_succ]
    exact (List.Perm.swap a k _).trans (z.cons a)
/-- membership, and a list without a key, or with one -/
def hasK {T : Type} [DecidableEq T] (L : List T) : T → Bool := fun j => decide (j ∈ L)
def offK {T : Type} [DecidableEq T] (L : List T) (k : T) : List T := L.erase k
def addK {T : Type} [DecidableEq T] (L : List T) (k : T) : List T := if k ∈ L then L else L ++ [k]
section
variable {T : Type} [DecidableEq T] {L : List T} {j k : T}
theorem offK_nodup (h : L.Nodup) : (offK L k).Nodup := h.erase k
theorem hasK_off (h : L.Nodup) : hasK (offK L k) j = (decide (j ≠ k) && hasK L j) := by
  unfold hasK offK
  rw [← Bool.decide_and]
  exact decide_eq_decide.mpr h.mem_erase_iff
theorem offK_len : (offK L k).length ≤ L.length := List.length_erase_le
theorem addK_nodup (h : L.Nodup) : (addK L k).Nodup := by
  unfold addK
  split
  · exact h
  · rename_i hk
    rw [List.nodup_append]
    refine ⟨h, by simp, fun x hx y hy => ?_⟩
    rw [List.mem_singleton.mp hy]
    rintro rfl
    exact hk hx
theorem hasK_add : hasK (addK L k) j = (hasK L j || decide (j = k)) := by
  unfold hasK addK
  split
  · rename_i hk
    by_cases e : j = k
    · subst e; simp [hk]
    · simp [e]
  · rw [← Bool.decide_or]
    exact decide_eq_decide.mpr (by rw [List.mem_append, List.mem_singleton])
theorem addK_len : (addK L k).length ≤ L.length + 1 := by
  unfold addK
  split
  · omega
  · simp
theorem addK_len' : (addK L k).length = if hasK L k = true then L.length else L.length + 1 := by
  unfold addK hasK
  by_cases hk : k ∈ L
  · rw [if_pos hk, if_pos (decide_eq_true hk)]
  · rw [if_neg hk, if_neg (by rw [decide_eq_false hk]; decide)]
    simp
end
section
variable {prog : Program} {w : World} {T : Type} [DecidableEq T] {knd : KeyKind prog w T}
/-- the keys of entries, one behind the other -/
inductive KsOf (knd : KeyKind prog w T) : List T → List (Int × Value) → Prop where
  | nil : KsOf knd [] []
  | cons {k : T} {e : Int × Value} {ks : List T} {l : List (Int × Value)} (h : knd.is k e.2 = true) (r : KsOf knd ks l) : KsOf knd (k :: ks) (e :: l)
theorem KsOf.of : ∀ {l : List (Int × Value)}, ElemsOf knd l → ∃ ks, KsOf knd ks l
  | [], _ => ⟨[], .nil⟩
  | e :: l, h => by
    obtain ⟨⟨k, hk, _⟩, _⟩ := h.head
    obtain ⟨ks, r⟩ := KsOf.of h.tail
    exact ⟨k :: ks, .cons hk r⟩
theorem KsOf.len : ∀ {ks : List T} {l : List (Int × Value)}, KsOf knd ks l → ks.length = l.length
  | _, _, .nil => rfl
  | _, _, .cons _ r => congrArg (· + 1) r.len
theorem KsOf.mem {k : T} : ∀ {ks : List T} {l : List (Int × Value)}, KsOf knd ks l → (k ∈ ks ↔ ∃ e ∈ l, knd.is k e.2 = true)
  | _, _, .nil => by simp
  | _, _, .cons (k := k0) (e := e) h r => by
    rw [List.mem_cons, r.mem]
    constructor
    · rintro (rfl | ⟨x, hx, hp⟩)
      · exact ⟨e, List.mem_cons_self .., h⟩
      · exact ⟨x, List.mem_cons_of_mem _ hx, hp⟩
    · rintro ⟨x, hx, hp⟩
      rcases List.mem_cons.mp hx with rfl | hx
      · exact .inl (knd.inj _ _ _ hp h)
      · exact .inr ⟨x, hx, hp⟩
theorem KsOf.erase : ∀ {ks : List T} {l : List (Int × Value)} (i : Nat), KsOf knd ks l → KsOf knd (ks.eraseIdx i) (l.eraseIdx i)
  | _, _, _, .nil => by simpa using KsOf.nil
  | _, _, 0, .cons h r => by simpa using r
  | _, _, i + 1, .cons h r => by simpa using KsOf.cons h (r.erase i)
theorem KsOf.at_ {k : T} : ∀ {ks : List T} {l : List (Int × Value)} {i : Nat} (hi : i < l.length), KsOf knd ks l → knd.is k (l[i]).2 = true → ks[i]? = some k
  | _, _, _, hi, .nil, _ => absurd hi (Nat.not_lt_zero _)
  | _, _, 0, hi, .cons h r, e => by
    have := knd.inj _ _ _ e h
    subst this; rfl
  | _, _, i + 1, hi, .cons h r, e => by
    simpa using r.at_ (i := i) (by simpa using hi) (by simpa using e)
theorem erase_list {α : Type} (xs : Array α) (i : Nat) : (SetTable.eraseAt xs i).toList = xs.toList.eraseIdx i := by
  unfold SetTable.eraseAt
  rw [Array.toList_append, Array.toList_extract, Array.toList_extract, List.eraseIdx_eq_take_drop_succ]
  simp [List.extract_eq_drop_take]
  rw [List.take_of_length_le (by simp)]
theorem ins_size {α : Type} (xs : Array α) (p : Nat) (x : α) : (SetTable.insertAt xs p x).size = xs.size + 1 := by
  unfold SetTable.insertAt
  simp only [Array.size_append, Array.size_push, Array.size_extract]
  omega
theorem ers_size {α : Type} (xs : Array α) (i : Nat) (hi : i < xs.size) : (SetTable.eraseAt xs i).size = xs.size - 1 := by
  rw [← Array.length_toList, erase_list, List.length_eraseIdx_of_lt (by simpa using hi), Array.length_toList]
theorem drop_fits {t : SetTable} {n i : Nat} (h : t.fits n = true) (hi : i < n) : (t.drop i).fits (n - 1) = true := by
  simp only [SetTable.fits, Bool.and_eq_true, beq_iff_eq, decide_eq_true_eq] at h ⊢
  obtain ⟨h1, h2⟩ := h
  have hp : i < t.place.size := by omega
  unfold SetTable.fill at h2
  unfold SetTable.drop SetTable.fill
  rw [Array.getElem?_eq_getElem hp]
  dsimp only
  rw [ers_size _ _ hp, ins_size]
  omega
variable {A : Around} {E : Value → Shared → Prop} {s : Shared} {a : Addr} {k : T} {key : Value}
theorem call_set_discard {L : List T} {Q : Value → Shared → Prop} (hkey : knd.is k key = true) (hsc : key.scannable = true) (hS : s.heap.SetOf knd a (hasK L) L.length) (nd : L.Nodup)
    (h : ∀ h', Heap.SameBut a s.heap h' → h'.SetOf knd a (hasK (offK L k)) (offK L k).length → Q .none { s with heap := h', toks := s.toks + 1 }) :
    wpAny (model prog w) A (call (.builtin "set.discard") [.ref a, key]) Q E s := by
  obtain ⟨o, es, ep, t, ho, hex, hd, hel, hmem, hb, hf, hn⟩ := id hS
  refine wpAny_call_entry F.slot_set_discard hS.typeIs F.entry_set_discard ?_ (F.args_set_discard_2 _ _)
  unfold Builtin.«set.discard» Builtin.Frozenset.oneOther
  simp only [List.isEmpty_nil, bind_assoc]
  unfold Builtin.Frozenset.addrOf Builtin.Frozenset.withSetAsKey setDiscard
  refine wpAny_bind (wpAny_pure ?_)
  try dsimp only
  refine wpAny_bind (wpAny_pure ?_)
  try dsimp only
  refine wpAny_bind (wpAny_tryCatch (wpAny_holding (wpAny_bind (knd.pyHash hkey ?_))))
  unfold setDiscardHashed setFind setFindIn
  refine wpAny_bind (wpAny_bind (wpAny_setState_of ho hd hf ?_))
  dsimp only
  rw [byScan_of hsc hb hel]
  simp only [↓reduceIte]
  refine wpAny_bind (wpAny_rule (wpAny_bind (wpAny_setScan_of hkey ho hd hf hel ?_)))
  obtain ⟨ks, K1⟩ := KsOf.of hel
  have P1 : ks.Perm L := perm_of_len nd (fun j hj => K1.mem.mpr ((hmem j).mp (decide_eq_true hj))) (by rw [K1.len, Array.length_toList, hn]; exact Nat.le_refl _)
  cases hr : List.findIdx? (fun e => knd.is k e.2) es.toList with
  | none =>
    dsimp only
    refine wpAny_pure (wpAny_pure ?_)
    have nk : k ∉ L := fun hk => by
      obtain ⟨e, he, hp⟩ := (hmem k).mp (decide_eq_true hk)
      have := List.findIdx?_eq_none_iff.mp hr e he
      rw [hp] at this; cases this
    have z := h s.heap (Heap.SameBut.refl a s.heap) (by unfold offK; rw [List.erase_of_not_mem nk]; exact hS)
    show wpAny _ _ (ret Value.none) _ _ _
    exact wpAny_pure ⟨_, rfl, z⟩
  | some i =>
    dsimp only
    obtain ⟨hi, hpi, _⟩ := List.findIdx?_eq_some_iff_getElem.mp hr
    have hi' : i < es.size := by simpa using hi
    refine wpAny_pure ?_
    dsimp only
    rw [Nat.zero_add]
    refine wpAny_bind (wpAny_setState_of ho hd hf ?_)
    dsimp only
    have ek := K1.at_ hi hpi
    obtain ⟨hik, ei⟩ := List.getElem?_eq_some_iff.mp ek
    have P2 : (ks.eraseIdx i).Perm (L.erase k) := by
      have p1 := perm_at ek
      have p2 := List.perm_cons_erase (P1.mem_iff.mp (ei ▸ List.getElem_mem hik))
      exact ((p1.trans P1).trans p2).cons_inv
    have K2 := K1.erase i
    have el := erase_list es i
    have sz : (SetTable.eraseAt es i).size = es.size - 1 := ers_size es i hi'
    have hel2 : ElemsOf knd (SetTable.eraseAt es i).toList := by
      rw [el]
      exact fun e he => hel e (List.mem_of_mem_eraseIdx he)
    have hm2 : ∀ j, decide (j ∈ L.erase k) = true ↔ ∃ e ∈ (SetTable.eraseAt es i).toList, knd.is j e.2 = true := fun j => by
      rw [decide_eq_true_eq, el, ← K2.mem, P2.mem_iff]
    refine wpAny_bind (wpAny_storeSet_of ho hd ?_ (fits_of_scanBound (Nat.lt_of_le_of_lt (by rw [sz]; omega) hb)))
    obtain ⟨ho1, hS1⟩ := SetOf_store (knd := knd) (t' := t.drop i) ho hex hd hel2 hm2 (by rw [sz]; omega) (by rw [sz]; exact drop_fits hf hi')
    refine wpAny_bind (wpAny_point (wpAny_pure ?_))
    have e2 : (SetTable.eraseAt es i).size = (L.erase k).length := by
      rw [← P2.length_eq, K2.len, ← el, Array.length_toList]
    rw [e2] at hS1
    show wpAny _ _ (ret Value.none) _ _ _
    exact wpAny_pure ⟨_, rfl, h _ (Heap.SameBut.update s.heap a _) hS1⟩
end
/-- a set of the keys of a list -/
def SetL (P : Program) (w : World) (a : Addr) (L : List Key) : HO := SetK P w a (hasK L) L.length
def rDiscL (P : Program) (w : World) : V → List V → Hp → VK → Prop := fun x xs H Q => ∃ (a : Addr) (k : Key) (L : List Key), x = V.ref a ∧ xs = [kV k] ∧ H a = some (SetL P w a L) ∧ L.Nodup ∧
  Q .non (upd H a (SetL P w a (offK L k)))
section
variable {X : Cx}
theorem mt_sdiscL : MtR X "set.discard" (rDiscL X.prog X.w) := by
  intro pins s σ H x xs v us Q I rx rxs h
  obtain ⟨a, k, L, rfl, rfl, ha, nd, q⟩ := h
  cases rx
  cases rxs with
  | cons ry rt =>
    cases rt
    refine call_set_discard (L := L) (kV_is ry) (key_scan ry) (setK_get I ha) nd fun h' sb new => ?_
    have he : ∃ u, h'.get? a = some u := by
      have ⟨o, _, _, _, ho, _⟩ := new
      exact ⟨o, ho⟩
    exact ⟨.non, upd H a (SetL X.prog X.w a (offK L k)), I.write (e := a) (t' := s.toks + 1) (by rw [ha]; trivial) (.inl rfl) (fun b u hb hu => (sb.2 b hb).trans hu) he (setK_new new), rfl, q⟩
end
end Pd

set_option maxHeartbeats 4000000
namespace Pd
open PySem PySem.Spec PyProof.Rows L2
theorem hasK_nil : (hasK ([] : List Key)) = fun _ => false := by
  funext j
  simp [hasK]
/-- set() -/
def rNewL (P : Program) (w : World) : List V → Hp → VK → Prop := fun xs H Q => xs = [] ∧ ∀ p, H p = none → Q (.ref p) (upd H p (SetL P w p []))
/-- k in found -/
def rInL (P : Program) (w : World) : R2 := fun x y H Q => ∃ (k : Key) (a : Addr) (L : List Key), x = kV k ∧ y = V.ref a ∧ H a = some (SetL P w a L) ∧ Q (.bl (hasK L k)) H
/-- found.add(k) -/
def rAddL (P : Program) (w : World) : V → List V → Hp → VK → Prop := fun x xs H Q => ∃ (a : Addr) (k : Key) (L : List Key), x = V.ref a ∧ xs = [kV k] ∧ H a = some (SetL P w a L) ∧ L.length + 1 < 4096 ∧
  Q .non (upd H a (SetL P w a (addK L k)))
/-- a method of a set of keys, by one value -/
def tSM (P : Program) (w : World) (r : V → List V → Hp → VK → Prop) (to te : TE) : TE := fun σ H Q => to σ H fun x H1 => (∃ a L, x = V.ref a ∧ H1 a = some (SetL P w a L)) ∧ te σ H1 fun y H2 => r x [y] H2 Q
section
variable {X : Cx}
theorem cr_newL : CallR X (.type "set") (rNewL X.prog X.w) := by
  intro pins s σ H xs us Q I r h
  obtain ⟨e, q⟩ := h
  refine cr_set0K pins s σ H xs us Q I r ⟨e, fun p hp => ?_⟩
  have z := q p hp
  unfold SetL at z
  rw [hasK_nil] at z
  exact z
theorem op_inL : OpR X (compareOp .In) (rInL X.prog X.w) := by
  intro pins s σ H x y v u Q I rx ry h
  obtain ⟨k, a, L, ex, ey, ha, q⟩ := h
  exact or_sinK pins s σ H x y v u Q I rx ry ⟨k, a, hasK L, L.length, ex, ey, ha, q⟩
theorem mt_addL : MtR X "set.add" (rAddL X.prog X.w) := by
  intro pins s σ H x xs v us Q I rx rxs h
  obtain ⟨a, k, L, ex, exs, ha, room, q⟩ := h
  refine mt_saddK pins s σ H x xs v us Q I rx rxs ⟨a, k, hasK L, L.length, ex, exs, ha, room, ?_⟩
  unfold SetL at q
  rw [addK_len', show hasK (addK L k) = fun j => hasK L j || decide (j = k) from funext fun j => hasK_add] at q
  exact q
theorem pe_setM {a e : Expr} {ta te : TE} {name : Str} {id : String} {apos pos : Pos} {r : V → List V → Hp → VK → Prop} (slot : Slot "set" name id) (ty : typeOf (.builtin id) = pure (.type "method_descriptor")) (rule : MtR X id r) (ho : PE X a ta) (he : PE X e te)
    (hs : starEach [e] X.env = [(false, eval e X.env)] := by rfl) (hbase : attributeBase a name X.env (eval a X.env) = eval a X.env := by rfl) (hline : (apos.endLine == pos.line) = true := by rfl) :
    PE X (.Call (.Attribute a name apos) [e] [] pos) (tSM X.prog X.w r ta te) := by
  constructor
  intro pins s σ H Q I h
  refine PySem.Call_method1 hbase hs hline (thn (ho.run pins s σ H _ I h) ?_)
  rintro v s1 ⟨x, H1, I1, r1, ⟨b, L, rfl, hb⟩, q1⟩
  obtain rfl : v = Value.ref b := r1
  have hS := setK_get I1 hb
  refine ⟨"set", _, F.plainAttrs_set, slot, ty, hS.typeIs, hS.noDict, Calls.callWith_builtin rfl (Calls.evalArgs_plain (Calls.spliced_cons ?_))⟩
  exact thn (he.run pins s1 σ H1 _ I1 q1) fun w s2 ⟨y, H2, I2, r2, q2⟩ => Calls.spliced_nil (rule pins s2 σ H2 (.ref b) [y] (.ref b) [w] Q I2 rfl (.cons r2 .nil) q2)
end
end Pd

set_option maxHeartbeats 4000000
namespace Pd
open PySem PySem.Spec PyProof.Rows L2
/-- isinstance(e, (c1, c2, ..)), e the exception that the suite holds -/
def rIsET (K : PySem.W.Frag) (D a : Addr) : List V → Hp → VK → Prop := fun xs H Q => ∃ (tp : Addr) (cs : List V) (us : List Value) (b : Bool), xs = [.ref a, .ref tp] ∧ H tp = some (.tup cs) ∧ Paired ClsV cs us ∧ PySem.W.kitAny K (.ref D) us = some b ∧ Q (.bl b) H
theorem call_isET {X : Cx} {a D : Addr} {oe : Obj} {pn : List (Addr × Obj)} (C : ExcC X.K D) (hz : Zc (.ref D) none oe) (hf : ∃ vs, oe.data = .fields vs) : CallR (X.suite a ((a, oe) :: pn)) (.builtin "isinstance") (rIsET X.K D a) := by
  intro pins s σ H xs us Q I r h
  obtain ⟨tp, cs, ws, b, rfl, hT, k, e, q⟩ := h
  obtain ⟨u1, u2, rfl, r1, r2⟩ := vals2 r
  cases (show u1 = Value.ref a from r1)
  cases (show u2 = Value.ref tp from r2)
  obtain ⟨_, its, rv, o, h1, h2, n, h3⟩ := (show ObjOk X.prog X.w H s.heap tp (.tup cs) from I.hok tp _ hT)
  have e3 := ClsV.all k rv
  subst e3
  obtain ⟨oc, od, dt, sl⟩ := o
  simp only at h2 h3
  subst h2 h3
  obtain ⟨hget, _⟩ := I.pin (a, oe) (List.mem_append.mpr (.inl List.mem_cons_self))
  obtain ⟨vs, hv⟩ := hf
  have J : PySem.W.InstAt s.heap a oe D none := by
    obtain ⟨oc, od, oda, osl⟩ := oe
    obtain ⟨z1, z2⟩ := hz
    dsimp only at z1 z2 hv
    subst z1 z2 hv
    exact ⟨hget, rfl, rfl, trivial⟩
  exact PySem.W.kia_tup (PySem.W.handS_kitx_exc C.hg C.hk C.hs C.hd C.ha C.hn C.ht C.hm) I.kIn J h1 e (fun z => nomatch z) fun tk => ⟨.bl b, H, I.kept (t' := tk) fun _ _ z => z, rfl, q⟩
/-- none of some classes -/
theorem kitAny_no {K : PySem.W.Frag} {D : Value} : ∀ {us : List Value}, (∀ u ∈ us, PySem.W.kitOne K D u = some false) → PySem.W.kitAny K D us = some false
  | [], _ => rfl
  | u :: us, h => by
    unfold PySem.W.kitAny
    rw [h u List.mem_cons_self]
    exact kitAny_no fun v hv => h v (List.mem_cons_of_mem _ hv)
/-- o.m(e, ..) of an own class where it may raise, in a try -/
def tMethX (C : Addr) (m : Str) (sp : Sp) (E : L2.St → XK) (ta : TE) (t : TA) : TE := fun σ H Q => ta σ H fun x H1 => ∃ (a dx : Addr) (fs : List (Str × V)), x = .ref a ∧ H1 a = some (.ins C dx fs) ∧ fs.lookup m = none ∧ t σ H1 fun vs H2 => sp (.ref a :: vs) H2 Q (E σ)
theorem pe_methX {X : Cx} {CX : CXT} {k : Nat} {C g : Addr} {fd : FuncData} {ps : List Str} {m : Str} {sp : Sp} {E : L2.St → XK} {o e : Expr} {es : List Expr} {ta : TE} {t : TA} {apos pos : Pos} {pl : Sem Bool} (he : PE X o ta) (c : Cls X.K C) (hm : Meth X.K C m g)
    (F : FnOk X.prog X.w X.K X.mg X.base CX k g fd ps sp) (hr : Room k X.A) (hb : Binds X.K fd ps []) (hx : ∀ σ, PassesAt CX X σ (E σ)) (ha : PA X (e :: es) t) (hst : starEach (e :: es) X.env = (false, eval e X.env) :: starEach es X.env := by rfl)
    (hpl : (backTo pos (starEach es X.env)).any (·.1) = false := by rfl)
    (ht : eval (.Call (.Attribute o m apos) (e :: es) [] pos) X.env = (do let ov ← eval o X.env; standAt apos.atName; let (f, first) ← holding [ov] (getMethod ov m pl); callWith pos f first (backTo pos (starEach (e :: es) X.env)) (backToKw pos (keywordEach [] X.env))) := by rfl) :
    PE X (.Call (.Attribute o m apos) (e :: es) [] pos) (tMethX C m sp E ta t) := by
  constructor
  intro pins s σ H Q I h
  refine PySem.W.methodCall_KW (pl := pl) (thn (he.run pins s σ H _ I h) ?_) ht
  rintro u s1 ⟨x, H1, I1, rx, a, dx, fs, rfl, ea, l, q⟩
  cases (show u = Value.ref a from rx)
  refine getmeth_ok I1 ea c hm l (PySem.W.callWith_K (first := [.ref a]) (h₀ := X.base) I.ok.mod.kin hm.kp (thn (ha.run pos pins s1 σ H1 _ I1 q) ?_) hst hpl)
  rintro us s2 ⟨vs, H2, I2, r, q2⟩
  exact ⟨I2.kIn, run_fnS (us := .ref a :: us) (vs := .ref a :: vs) F hr hb (hx σ) I2 (.cons rfl r) q2⟩
end Pd

set_option maxHeartbeats 4000000
namespace Pd
open PySem PySem.Spec PyProof.Rows L2
/-! ### isinstance of a caught error that has a field -/
theorem excD_at {X : Cx} {a D dd : Addr} {oe : Obj} {pn pins : List (Addr × Obj)} {σ : L2.St} {H : Hp} {s : Shared} {fs : List (Str × V)} (hz : Zc (.ref D) (some dd) oe) (hf : ∃ vs, oe.data = .fields vs) (I : Inv (X.suite a ((a, oe) :: pn)) pins σ H s) (hd : H dd = some (.xd fs)) :
    ∃ od, PySem.W.InstAt s.heap a oe D (some od) := by
  obtain ⟨ha, _⟩ := I.pin (a, oe) (List.mem_append_left _ List.mem_cons_self)
  obtain ⟨vs, hv⟩ := hf
  obtain ⟨mA, hns, hr⟩ := (show ObjOk X.prog X.w H s.heap dd (.xd fs) from I.hok dd _ hd)
  obtain ⟨od, ho, hl⟩ := lookIn_ns hns
  exact ⟨od, ha, hz.1, by unfold PySem.W.notCls; rw [hv] <;> rfl, by rw [hz.2]; exact ho⟩
/-- isinstance(e, c) -/
def rIsD (K : PySem.W.Frag) (D a dd : Addr) : List V → Hp → VK → Prop := fun xs H Q => ∃ (c : V) (cv : Value) (b : Bool) (fs : List (Str × V)), xs = [.ref a, c] ∧ H dd = some (.xd fs) ∧ (∀ u, RelV c u → u = cv) ∧ PySem.W.kitOne K (.ref D) cv = some b ∧ Q (.bl b) H
theorem call_isD {X : Cx} {a D dd : Addr} {oe : Obj} {pn : List (Addr × Obj)} (C : ExcC X.K D) (hz : Zc (.ref D) (some dd) oe) (hf : ∃ vs, oe.data = .fields vs) : CallR (X.suite a ((a, oe) :: pn)) (.builtin "isinstance") (rIsD X.K D a dd) := by
  intro pins s σ H xs us Q I r h
  obtain ⟨c, cv, b, fs, rfl, hd, hcv, e, q⟩ := h
  obtain ⟨u1, u2, rfl, r1, r2⟩ := vals2 r
  cases (show u1 = Value.ref a from r1)
  obtain rfl := hcv _ r2
  obtain ⟨od, J⟩ := excD_at hz hf I hd
  have cl : (PySem.W.clsIn X.K D).isSome = true := by
    obtain ⟨cd, hc, _⟩ := PySem.W.any_some C.hd
    rw [hc]; rfl
  exact PySem.W.kia_one (PySem.W.kitx_exc cl C.hg C.hk C.hs C.ha C.hn C.ht C.hm) I.kIn J e (fun z => nomatch z) fun tk => ⟨.bl b, H, I.kept (t' := tk) fun _ _ z => z, rfl, q⟩
/-- isinstance(e, (c1, c2, ..)) -/
def rIsDT (K : PySem.W.Frag) (D a dd : Addr) : List V → Hp → VK → Prop := fun xs H Q => ∃ (tp : Addr) (cs : List V) (us : List Value) (b : Bool) (fs : List (Str × V)), xs = [.ref a, .ref tp] ∧ H dd = some (.xd fs) ∧ H tp = some (.tup cs) ∧ Paired ClsV cs us ∧ PySem.W.kitAny K (.ref D) us = some b ∧ Q (.bl b) H
theorem call_isDT {X : Cx} {a D dd : Addr} {oe : Obj} {pn : List (Addr × Obj)} (C : ExcC X.K D) (hz : Zc (.ref D) (some dd) oe) (hf : ∃ vs, oe.data = .fields vs) : CallR (X.suite a ((a, oe) :: pn)) (.builtin "isinstance") (rIsDT X.K D a dd) := by
  intro pins s σ H xs us Q I r h
  obtain ⟨tp, cs, ws, b, fs, rfl, hd, hT, k, e, q⟩ := h
  obtain ⟨u1, u2, rfl, r1, r2⟩ := vals2 r
  cases (show u1 = Value.ref a from r1)
  cases (show u2 = Value.ref tp from r2)
  obtain ⟨_, its, rv, o, h1, h2, n, h3⟩ := (show ObjOk X.prog X.w H s.heap tp (.tup cs) from I.hok tp _ hT)
  have e3 := ClsV.all k rv
  subst e3
  obtain ⟨oc, od', dt, sl⟩ := o
  simp only at h2 h3
  subst h2 h3
  obtain ⟨od, J⟩ := excD_at hz hf I hd
  have cl : (PySem.W.clsIn X.K D).isSome = true := by
    obtain ⟨cd, hc, _⟩ := PySem.W.any_some C.hd
    rw [hc]; rfl
  exact PySem.W.kia_tup (PySem.W.kitx_exc cl C.hg C.hk C.hs C.ha C.hn C.ht C.hm) I.kIn J h1 e (fun z => nomatch z) fun tk => ⟨.bl b, H, I.kept (t' := tk) fun _ _ z => z, rfl, q⟩
/-! ### f(k = v, ..) where it may raise, in a try -/
def tCallKX (m : Nat) (sp : Sp) (gV : List V → List V → List V) (E : L2.St → XK) (tk : TA) : TE := fun σ H Q => tk σ H fun zs H2 => zs.length = m ∧ sp (gV [] zs) H2 Q (E σ)
theorem pe_callKX {X : Cx} {CX : CXT} {k : Nat} {f : Addr} {fd : FuncData} {ps ks : List Str} {sp : Sp} {E : L2.St → XK} {x : Str} {p pos : Pos} {kws : List Keyword} {tk : TA} {g : List Value → List Value → List Value} {gV : List V → List V → List V}
    (F : FnOk X.prog X.w X.K X.mg X.base CX k f fd ps sp) (hr : Room k X.A) (hg : Gl X x) (hm : X.mg x = some (.ref f)) (hk : PySem.W.keepIn X.K (.ref f) = true) (hb : KBn X.K fd ps 0 ks g gV) (hx : ∀ σ, PassesAt CX X σ (E σ)) (hkw : PK X kws tk)
    (hall : (backToKw pos (keywordEach kws X.env)).all (·.1.isSome) = true := by rfl) (hks : (backToKw pos (keywordEach kws X.env)).filterMap (·.1) = ks := by rfl) (hdb : (x == ("__debug__" : Str)) = false := by decide)
    (hpl : ((backTo pos (starEach [] X.env)).any (·.1) || (backToKw pos (keywordEach kws X.env)).any (·.1.isNone)) = false := by rfl) :
    PE X (.Call (.Name x p) [] kws pos) (tCallKX ks.length sp gV E tk) := by
  constructor
  intro pins s σ H Q I h
  refine wpAny_Call_Name_kw (ld_glob I hg hm ?_ hdb)
  refine PySem.W.callWith_KW0 (h₀ := X.base) I.ok.mod.kin hk hall ?_ hpl
  refine thn (hkw.run pos pins s σ H _ I h) fun ws s2 ⟨zs, H2, I2, rz, l2, q2⟩ => ⟨I2.kIn, ?_⟩
  rw [hks]
  have r2 := hb.rel (.nil : Vals [] []) rz
  refine wpAny_call (codeAny_mono (F.run X.A X.stack s2 H2 ⟨[], ks.zip ws⟩ (g [] ws) (gV [] zs) Q (E σ) hr I2.env0 (hb.to s2 [] ws I2.kIn rfl (rz.length.symm.trans l2)) r2 q2) fun r s' hq => ?_)
  cases r with
  | error e => exact hx σ pins H2 s2 e s' I2 hq
  | ok fl =>
    cases fl with
    | ret u => exact I2.after hq
    | next => exact False.elim hq
    | brk => exact False.elim hq
    | cont => exact False.elim hq
/-! ### x != x: a list and its copy, one tuple, one empty dict, plain values -/
/-- an item that is seen to be equal to itself -/
def selfB : V → Bool
  | .non => true | .bl _ => true | .int _ => true | .str _ => true | .ref _ => true
  | _ => false
theorem eq_self {A : Around} {s : Shared} {x : V} {u v : Value} (h : selfB x = true) (r1 : RelV x u) (r2 : RelV x v) : SeqAt.EqAt A s u v true := by
  cases x with
  | non => cases r1; cases r2; exact SeqAt.EqAt.same _
  | bl b => cases r1; cases r2; exact SeqAt.EqAt.same _
  | int i =>
    obtain ⟨t, rfl⟩ := r1
    obtain ⟨t', rfl⟩ := r2
    have z := SeqAt.EqAt.int_int (A := A) (s := s) i t i t'
    rwa [beq_self_eq_true] at z
  | str y =>
    obtain ⟨t, rfl⟩ := r1
    obtain ⟨t', rfl⟩ := r2
    have z := SeqAt.EqAt.str_str (A := A) (s := s) y t y t'
    rwa [beq_self_eq_true] at z
  | ref a => cases (show u = Value.ref a from r1); cases (show v = Value.ref a from r2); exact SeqAt.EqAt.same _
  | _ => exact absurd (show false = true from h) Bool.false_ne_true
theorem sub_dd : isSubtype (.type "dict") (.type "dict") = pure true := by rw [isSubtype_type]; kernel_rfl
theorem dictNe_self {a : Addr} {o : Obj} {ep : Nat} : Meets (Builtin.«dict.__ne__» ⟨[.ref a, .ref a], []⟩) (fun _ R s => (s.heap.get? a = some o ∧ o.cls = .type "dict" ∧ o.data = .dict #[] ep ∧ (a == sysModules) = false) ∧ R (.ok (.ret (.bool false))) s) :=
  .of_wp fun prog w A R s h => by
    obtain ⟨hp, g, d, tk, os⟩ := s
    obtain ⟨⟨ho, hc, hd, hs⟩, h⟩ := h
    obtain ⟨oc, od, dt, sl⟩ := o
    simp only at hc hd
    subst hc hd
    have hT : Shared.TypeIs ⟨hp, g, d, tk, os⟩ (.ref a) "dict" := ⟨_, ho, rfl⟩
    have sb := sub_dd
    wp_walk using wpAny_dictEntries ho rfl, TI.forIn_rng _ (fun rest b s' => rest = [] ∧ b = (none, ()) ∧ s' = ⟨hp, g, d, tk, os⟩) _
    case turn =>
      rintro x rest b s' ⟨hr, _⟩
      cases hr
    case fin =>
      rintro b s' ⟨_, rfl, rfl⟩
      wp_walk
      exact ⟨_, rfl, h⟩
    case h => exact ⟨rfl, rfl, rfl⟩
/-- x != y is False -/
def rNeSelf (K : PySem.W.Frag) : R2 := fun x y H Q => ((∃ (a b : Addr) (xs : List V), x = .ref a ∧ y = .ref b ∧ SqL K H a xs ∧ SqL K H b xs ∧ xs.all selfB = true) ∨ (∃ (a : Addr) (xs : List V), x = .ref a ∧ y = .ref a ∧ SqT K H a xs) ∨ (∃ a : Addr, x = .ref a ∧ y = .ref a ∧ H a = some (.dK [])) ∨
  (y = x ∧ (x = .non ∨ (∃ b, x = .bl b) ∨ (∃ i, x = .int i) ∨ ∃ z, x = .str z))) ∧ Q (.bl false) H
theorem op_neSelf {X : Cx} (hu : X.A.units + 64 < cLine) : OpR X (compareOp .NotEq) (rNeSelf X.K) := by
  intro pins s σ H x y v u Q I rx ry h
  obtain ⟨h, q⟩ := h
  have hu' : X.A.units < cLine := by omega
  have fin : ∀ {b : Bool}, b = false → EP X pins σ Q (.bool b) s := fun e => by subst e; exact ⟨.bl false, H, I, rfl, q⟩
  rcases h with ⟨a, b, xs, rfl, rfl, ha, hb, hs⟩ | ⟨a, xs, rfl, rfl, ha⟩ | ⟨a, rfl, rfl, ha⟩ | ⟨rfl, h⟩
  · cases (show v = Value.ref a from rx)
    cases (show u = Value.ref b from ry)
    obtain ⟨its, rv, pl, _⟩ := I.list ha
    obtain ⟨its2, rv2, pl2, _⟩ := I.list hb
    have l1 := rv.length
    have l2 := rv2.length
    refine SeqAt.RcNeAt.lists (e := fun _ => true) pl.isList pl2.isList (by simp only [List.size_toArray]; omega) hu' (fun j h1 h2 => ?_) X.prog X.w X.xe _ (fin (by simp))
    have hj : j < xs.length := by simp only [List.size_toArray] at h1; omega
    obtain ⟨u1, e1, r1⟩ := rv.get (List.getElem?_eq_getElem hj)
    obtain ⟨u2, e2, r2⟩ := rv2.get (List.getElem?_eq_getElem hj)
    have f1 : its.toArray[j] = u1 := by
      have z : its[j]? = some its.toArray[j] := by simp
      rw [e1] at z; exact (Option.some.inj z).symm
    have f2 : its2.toArray[j] = u2 := by
      have z : its2[j]? = some its2.toArray[j] := by simp
      rw [e2] at z; exact (Option.some.inj z).symm
    rw [f1, f2]
    exact eq_self (List.all_eq_true.mp hs _ (List.getElem_mem hj)) r1 r2
  · cases (show v = Value.ref a from rx)
    cases (show u = Value.ref a from ry)
    obtain ⟨its, rv, pl, _⟩ := I.tuple ha
    exact SeqAt.RcNeAt.tuples (e := fun _ => true) pl pl hu' (fun j h1 h2 => SeqAt.EqAt.same _) X.prog X.w X.xe _ (fin (by simp))
  · cases (show v = Value.ref a from rx)
    cases (show u = Value.ref a from ry)
    obtain ⟨_, hs, vs, kv, o, es, ep, ho, hx, hd, _, pr, _⟩ := (show ObjOk X.prog X.w H s.heap a (.dK []) from I.hok a _ ha)
    cases kv
    have es0 : es = #[] := by
      have z := pr.length
      simp at z
      exact z
    subst es0
    exact richCompare_meets_room (op := .NotEq) ⟨o, ho, hx.1⟩ ⟨o, ho, hx.1⟩ PySem.F.slot_dict_ne PySem.F.entry_dict_ne (PySem.F.args_dict_ne_2 _ _) (dictNe_self (o := o) (ep := ep)) ⟨⟨ho, hx.1, hd, hs⟩, (fun z => nomatch z), fin rfl⟩ hu'
  · rcases h with rfl | ⟨b, rfl⟩ | ⟨i, rfl⟩ | ⟨z, rfl⟩
    · cases rx; cases ry
      exact SeqAt.RcNeAt.none_none X.prog X.w X.xe _ (fin rfl)
    · cases rx; cases ry
      exact SeqAt.RcNeAt.bool_bool b b X.prog X.w X.xe _ (fin (by simp))
    · obtain ⟨t, rfl⟩ := rx
      obtain ⟨t', rfl⟩ := ry
      exact SeqAt.RcNeAt.int_int i t i t' X.prog X.w X.xe _ (fin (by simp))
    · obtain ⟨t, rfl⟩ := rx
      obtain ⟨t', rfl⟩ := ry
      exact SeqAt.RcNeAt.str_str z t z t' X.prog X.w X.xe _ (fin (by simp))
end Pd

set_option maxHeartbeats 4000000
namespace Pd
open PySem PySem.Spec PySem.Calls PyProof.Rows L2 MeetsSeq
/-! ### == and != of an own class with an own __eq__: the values of other kinds decline -/
/-- an instance of the class at C stands at x; the class is neither list nor tuple -/
structure InsX (K : PySem.W.Frag) (C x dx : Addr) (h : Heap) : Prop where
  i : K.In h
  o : h.get? x = some (PySem.W.instObj C dx)
  j : ∃ od, PySem.W.InstAt h x (PySem.W.instObj C dx) C (some od)
  nl : PySem.W.subIn K (.ref C) (.type "list") = some false
  nt : PySem.W.subIn K (.ref C) (.type "tuple") = some false
section
variable {K : PySem.W.Frag} {C x dx : Addr}
theorem InsX.noL {prog : Program} {w : World} {h : Heap} (I : InsX K C x dx h) : PySem.W.Looks (model prog w) h (isInstance (.ref x) (.type "list")) false := by
  obtain ⟨od, J⟩ := I.j
  exact J.type.andThen (PySem.W.looks_subIn I.i I.nl)
theorem InsX.noT {prog : Program} {w : World} {h : Heap} (I : InsX K C x dx h) : PySem.W.Looks (model prog w) h (isInstance (.ref x) (.type "tuple")) false := by
  obtain ⟨od, J⟩ := I.j
  exact J.type.andThen (PySem.W.looks_subIn I.i I.nt)
theorem listEq_dec (l : Addr) : Meets (Builtin.«list.__eq__» ⟨[.ref l, .ref x], []⟩) (fun _ R s => InsX K C x dx s.heap ∧ R (.ok (.ret .notImplemented)) s) :=
  .of_wp fun prog w A R s h => by
    obtain ⟨hp, g, d, tk, os⟩ := s
    obtain ⟨I, h⟩ := h
    have f1 := I.noL (prog := prog) (w := w)
    wp_walk using f1.here
    exact ⟨_, rfl, h⟩
theorem listNe_dec (l : Addr) : Meets (Builtin.«list.__ne__» ⟨[.ref l, .ref x], []⟩) (fun _ R s => InsX K C x dx s.heap ∧ R (.ok (.ret .notImplemented)) s) :=
  .of_wp fun prog w A R s h => by
    obtain ⟨hp, g, d, tk, os⟩ := s
    obtain ⟨I, h⟩ := h
    have f1 := I.noL (prog := prog) (w := w)
    wp_walk using f1.here
    exact ⟨_, rfl, h⟩
theorem tupEq_dec (l : Addr) : Meets (Builtin.«tuple.__eq__» ⟨[.ref l, .ref x], []⟩) (fun _ R s => InsX K C x dx s.heap ∧ R (.ok (.ret .notImplemented)) s) :=
  .of_wp fun prog w A R s h => by
    obtain ⟨hp, g, d, tk, os⟩ := s
    obtain ⟨I, h⟩ := h
    have f1 := I.noT (prog := prog) (w := w)
    wp_walk using f1.here
    exact ⟨_, rfl, h⟩
theorem tupNe_dec (l : Addr) : Meets (Builtin.«tuple.__ne__» ⟨[.ref l, .ref x], []⟩) (fun _ R s => InsX K C x dx s.heap ∧ R (.ok (.ret .notImplemented)) s) :=
  .of_wp fun prog w A R s h => by
    obtain ⟨hp, g, d, tk, os⟩ := s
    obtain ⟨I, h⟩ := h
    have f1 := I.noT (prog := prog) (w := w)
    wp_walk using f1.here
    exact ⟨_, rfl, h⟩
theorem strEq_dec (b : Str) (u : Tok) : Meets (Builtin.«str.__eq__» ⟨[.str b u, .ref x], []⟩) (fun _ R s => InsX K C x dx s.heap ∧ R (.ok (.ret .notImplemented)) s) :=
  .of_wp fun prog w A R s h => by
    obtain ⟨hp, g, d, tk, os⟩ := s
    obtain ⟨I, h⟩ := h
    have hl := I.o
    wp_walk using wpAny_load hl
    exact ⟨_, rfl, h⟩
theorem strNe_dec (b : Str) (u : Tok) : Meets (Builtin.«str.__ne__» ⟨[.str b u, .ref x], []⟩) (fun _ R s => InsX K C x dx s.heap ∧ R (.ok (.ret .notImplemented)) s) :=
  .of_wp fun prog w A R s h => by
    obtain ⟨hp, g, d, tk, os⟩ := s
    obtain ⟨I, h⟩ := h
    have hl := I.o
    wp_walk using wpAny_load hl
    exact ⟨_, rfl, h⟩
theorem intEq_dec (b : Int) (u : Tok) : Meets (Builtin.«int.__eq__» ⟨[.int b u, .ref x], []⟩) (fun _ R s => InsX K C x dx s.heap ∧ R (.ok (.ret .notImplemented)) s) :=
  .of_wp fun prog w A R s h => by
    obtain ⟨hp, g, d, tk, os⟩ := s
    obtain ⟨I, h⟩ := h
    have hl := I.o
    wp_walk using wpAny_load hl
    exact ⟨_, rfl, h⟩
theorem intNe_dec (b : Int) (u : Tok) : Meets (Builtin.«int.__ne__» ⟨[.int b u, .ref x], []⟩) (fun _ R s => InsX K C x dx s.heap ∧ R (.ok (.ret .notImplemented)) s) :=
  .of_wp fun prog w A R s h => by
    obtain ⟨hp, g, d, tk, os⟩ := s
    obtain ⟨I, h⟩ := h
    have hl := I.o
    wp_walk using wpAny_load hl
    exact ⟨_, rfl, h⟩
theorem bolEq_dec (b : Bool) : Meets (Builtin.«int.__eq__» ⟨[.bool b, .ref x], []⟩) (fun _ R s => InsX K C x dx s.heap ∧ R (.ok (.ret .notImplemented)) s) :=
  .of_wp fun prog w A R s h => by
    obtain ⟨hp, g, d, tk, os⟩ := s
    obtain ⟨I, h⟩ := h
    have hl := I.o
    wp_walk using wpAny_load hl
    exact ⟨_, rfl, h⟩
theorem bolNe_dec (b : Bool) : Meets (Builtin.«int.__ne__» ⟨[.bool b, .ref x], []⟩) (fun _ R s => InsX K C x dx s.heap ∧ R (.ok (.ret .notImplemented)) s) :=
  .of_wp fun prog w A R s h => by
    obtain ⟨hp, g, d, tk, os⟩ := s
    obtain ⟨I, h⟩ := h
    have hl := I.o
    wp_walk using wpAny_load hl
    exact ⟨_, rfl, h⟩
end
end Pd

set_option maxHeartbeats 4000000
namespace Pd
open PySem PySem.Spec PySem.Calls PyProof.Rows L2 MeetsSeq
open PySem.W (InstAt Looks findIn subIn isFn looks_subIn looks_findIn notFirst ifBound_K check_slot)
/-! ### == and != of an own class, from the left and from the right -/
section
variable {prog : Program} {w : World} {A : Around} {E : Value → Shared → Prop} {s : Shared} {K : PySem.W.Frag} {x C f : Addr} {ox : Obj} {od : Option Obj} {b tb : Value}
theorem tc_eq {Q : Option Value → Shared → Prop} (X : K.In s.heap) (J : InstAt s.heap x ox C od) (hs : findIn K (.ref C) "__eq__" = some (some (.ref f))) (hf : isFn K (.ref f) = true)
    (h : wpAny (model prog w) A (call (.ref f) [.ref x, b]) (fun v s' => ∃ r, v = .bool r ∧ Q (some (.bool r)) s') E s) : wpAny (model prog w) A (tryCompare (.ref x) "__eq__" b) Q E s := by
  unfold tryCompare
  refine wpAny_bind (ifBound_K X J hs hf (wpAny_mono h (fun v s' hv => ?_) fun _ _ e => e))
  obtain ⟨r, rfl, q⟩ := hv
  exact wpAny_pure q
theorem objNe {Q : Fin → Shared → Prop} (hu : A.units < cLine) (X : K.In s.heap) (J : InstAt s.heap x ox C od) (hs : findIn K (.ref C) "__eq__" = some (some (.ref f))) (hf : isFn K (.ref f) = true)
    (h : wpAny (model prog w) A (call (.ref f) [.ref x, b]) (fun v s' => ∃ r, v = .bool r ∧ Q (.done (.ret (.bool (!r)))) s') E s) : wpAny (model prog w) A (Builtin.«object.__ne__» ⟨[.ref x, b], []⟩) Q E s := by
  unfold Builtin.«object.__ne__»
  refine wpAny_bind (wpAny_of_eq (a := ((Value.ref x : Value), [b])) (by first | rfl | (simp only [slotArgs]; rfl)) ?_)
  refine wpAny_bind (wpAny_cRoomFor hu ?_)
  refine wpAny_bind (ifBound_K X J hs hf (wpAny_mono h (fun v s' hv => ?_) fun _ _ e => e))
  obtain ⟨r, rfl, q⟩ := hv
  refine wpAny_bind (wpAny_truthy_bool ?_)
  exact wpAny_pure q
theorem tc_ne {Q : Option Value → Shared → Prop} (hu : A.in1.units < cLine) (X : K.In s.heap) (J : InstAt s.heap x ox C od) (hne : findIn K (.ref C) "__ne__" = some (some (.builtin "object.__ne__"))) (hob : subIn K (.ref C) (.type "object") = some true)
    (hs : findIn K (.ref C) "__eq__" = some (some (.ref f))) (hf : isFn K (.ref f) = true)
    (h : wpAny (model prog w) A.in1 (call (.ref f) [.ref x, b]) (fun v s' => ∃ r, v = .bool r ∧ Q (some (.bool (!r))) s') E s) : wpAny (model prog w) A (tryCompare (.ref x) "__ne__" b) Q E s := by
  have sub : Looks (model prog w) s.heap (isInstance (.ref x) (.type "object")) true := J.type.andThen (looks_subIn X hob)
  have go : wpAny (model prog w) A (call (.builtin "object.__ne__") [.ref x, b]) (fun v s' => ∃ r, v = .bool r ∧ Q (some (.bool r)) s') E s := by
    refine wpAny_call (codeAny_call_builtin PySem.F.cmp_object.ne.plain PySem.F.cmpEntry_ne ?_)
    refine check_slot PySem.F.cmpKind_ne PySem.F.cmpSplit_ne sub (PySem.F.cmpArgs_ne _ _) ?_
    refine objNe hu X J hs hf (wpAny_mono h (fun v s' hv => ?_) fun _ _ e => e)
    obtain ⟨r, rfl, q⟩ := hv
    exact ⟨r, rfl, _, rfl, q⟩
  have fin : wpAny (model prog w) A (call (.builtin "object.__ne__") ([.ref x] ++ [b]) >>= fun v => pure (some v)) (fun r s' => wpAny (model prog w) A (match r with | some .notImplemented | none => pure none | some v => pure (some v)) Q E s') E s := by
    refine wpAny_bind (wpAny_mono go (fun v s' hv => ?_) fun _ _ e => e)
    obtain ⟨r, rfl, q⟩ := hv
    exact wpAny_pure (wpAny_pure q)
  unfold tryCompare
  simp only [callSpecialIfBound?, bindSpecialIfBound?]
  refine wpAny_bind (wpAny_holding (wpAny_bind (wpAny_bind (wpAny_bind (J.type.here ((looks_findIn X hne).here ?_))))))
  refine wpAny_bind (wpAny_askSetting (wpAny_ite ?_))
  have bnd : bindSpecial (.builtin "object.__ne__") (.ref x) = pure ((.builtin "object.__ne__" : Value), [.ref x]) := PySem.F.cmp_object.ne.bind (.ref x)
  split
  · exact wpAny_bind (wpAny_of_eq bnd (wpAny_pure (by exact fin)))
  · exact wpAny_tryCatch (wpAny_bind (wpAny_of_eq bnd (wpAny_pure (by exact fin))))
theorem rc_left {op : CmpOp} {Q : Value → Shared → Prop} (hu : A.units < cLine) (X : K.In s.heap) (J : InstAt s.heap x ox C od) (hb : Looks (model prog w) s.heap (typeOf b) tb) (hn : notFirst K C tb = true)
    (h : wpAny (model prog w) A (tryCompare (.ref x) (cmpInfo op).2.1 b) (fun r s' => ∃ v, r = some v ∧ Q v s') E s) : wpAny (model prog w) A (richCompare op (.ref x) b) Q E s := by
  unfold richCompare
  simp only [oneThing_ref]
  refine wpAny_holding (wpAny_bind (wpAny_cRoomFor hu (wpAny_bind (J.type.here (wpAny_bind (hb.here ?_))))))
  split
  · rename_i q
    have e : subIn K tb (.ref C) = some false := by
      rcases Bool.or_eq_true_iff.mp hn with e | e
      · rw [beq_iff_eq.mp e] at q; simp at q
      · exact beq_iff_eq.mp e
    refine wpAny_bind ((looks_subIn X e).here ?_)
    simp only [Bool.false_eq_true, if_false]
    refine wpAny_bind (wpAny_mono h (fun r s' z => ?_) fun _ _ e => e)
    obtain ⟨v, rfl, hq⟩ := z
    exact wpAny_pure hq
  · refine wpAny_bind (wpAny_pure ?_)
    simp only [Bool.false_eq_true, if_false]
    refine wpAny_bind (wpAny_mono h (fun r s' z => ?_) fun _ _ e => e)
    obtain ⟨v, rfl, hq⟩ := z
    exact wpAny_pure hq
theorem rc_right {op : CmpOp} {a : Value} {Ta id : String} {Q : Value → Shared → Prop} (ha : s.TypeIs a Ta) (hu : A.units < cLine) (X : K.In s.heap) (J : InstAt s.heap x ox C od) (hsub : subIn K (.ref C) (.type Ta) = some false) (h1 : Slot Ta (cmpInfo op).2.1 id)
    (hc1 : ∀ Q' : Value → Shared → Prop, Q' .notImplemented s → wpAny (model prog w) A (call (.builtin id) [a, .ref x]) Q' E s)
    (h : wpAny (model prog w) A (tryCompare (.ref x) (cmpInfo op).2.2 a) (fun r s' => ∃ v, r = some v ∧ Q v s') E s) : wpAny (model prog w) A (richCompare op a (.ref x)) Q E s := by
  rcases hi : cmpInfo op with ⟨sym, n1, n2⟩
  rw [hi] at h1 h
  simp only [richCompare, hi, ha.oneThing_none]
  refine wpAny_holding (wpAny_bind (wpAny_cRoomFor hu (wpAny_bind (wpAny_typeOf ha (wpAny_bind (J.type.here ?_))))))
  have ne : (Value.type Ta != Value.ref C) = true := rfl
  simp only [ne, if_true]
  refine wpAny_bind ((looks_subIn X hsub).here ?_)
  simp only [Bool.false_eq_true, if_false, Bool.not_false, if_true]
  refine wpAny_bind (m := tryCompare a _ (.ref x)) (wpAny_tryCompare_declines ha h1 (hc1 _ ⟨rfl, ?_⟩))
  refine wpAny_bind (wpAny_mono h (fun r s' z => ?_) fun _ _ e => e)
  obtain ⟨v, rfl, hq⟩ := z
  exact wpAny_pure hq
end
end Pd

set_option maxHeartbeats 4000000
namespace Pd
open PySem PySem.Spec PySem.Calls PyProof.Rows L2 MeetsSeq
open PySem.W (InstAt Looks findIn subIn isFn looks_subIn looks_findIn notFirst)
/-! ### == and != of an own class in a text -/
/-- what the class must say -/
structure EqC (K : PySem.W.Frag) (C g : Addr) : Prop where
  eq : findIn K (.ref C) "__eq__" = some (some (.ref g))
  fn : isFn K (.ref g) = true
  ne : findIn K (.ref C) "__ne__" = some (some (.builtin "object.__ne__"))
  ob : subIn K (.ref C) (.type "object") = some true
  l : subIn K (.ref C) (.type "list") = some false
  t : subIn K (.ref C) (.type "tuple") = some false
  s : subIn K (.ref C) (.type "str") = some false
  i : subIn K (.ref C) (.type "int") = some false
  b : subIn K (.ref C) (.type "bool") = some false
  n : subIn K (.ref C) (.type "NoneType") = some false
  l' : subIn K (.type "list") (.ref C) = some false
  t' : subIn K (.type "tuple") (.ref C) = some false
  s' : subIn K (.type "str") (.ref C) = some false
  i' : subIn K (.type "int") (.ref C) = some false
  b' : subIn K (.type "bool") (.ref C) = some false
  n' : subIn K (.type "NoneType") (.ref C) = some false
/-- a value of a built-in kind -/
inductive Bk (K : PySem.W.Frag) (H : Hp) : V → Prop where
  | non : Bk K H .non
  | int (i : Int) : Bk K H (.int i)
  | bl (b : Bool) : Bk K H (.bl b)
  | str (s : Str) : Bk K H (.str s)
  | lst {a : Addr} {xs : List V} (h : SqL K H a xs) : Bk K H (.ref a)
  | tup {a : Addr} {xs : List V} (h : SqT K H a xs) : Bk K H (.ref a)
/-- the other side -/
inductive Kd (K : PySem.W.Frag) (C : Addr) (H : Hp) : V → Prop where
  | kind {y : V} (h : Bk K H y) : Kd K C H y
  | own {a C' dx : Addr} {fs : List (Str × V)} (h : H a = some (.ins C' dx fs)) (n : notFirst K C (.ref C') = true) : Kd K C H (.ref a)
def rOwnL (K : PySem.W.Frag) (C : Addr) (k : Bool → Bool) (sp : Sp) (E : XK) : R2 := fun x y H Q => ∃ a dx fs, x = .ref a ∧ H a = some (.ins C dx fs) ∧ Kd K C H y ∧ sp [.ref a, y] H (fun z H' => ∃ b, z = .bl b ∧ Q (.bl (k b)) H') E
def rOwnR (K : PySem.W.Frag) (C : Addr) (k : Bool → Bool) (sp : Sp) (E : XK) : R2 := fun x y H Q => ∃ a dx fs, y = .ref a ∧ H a = some (.ins C dx fs) ∧ Bk K H x ∧ sp [.ref a, x] H (fun z H' => ∃ b, z = .bl b ∧ Q (.bl (k b)) H') E
section
variable {X : Cx} {CX : CXT} {C g : Addr} {n : Nat} {sp : Sp} {E : XK} {pins : List (Addr × Obj)} {σ : L2.St} {H : Hp} {s : Shared} {Q : VK}
theorem lookT {M : Model} {h : Heap} {a : Addr} {o : Obj} {T : String} (e : h.get? a = some o) (c : o.cls = .type T) : Looks M h (typeOf (.ref a)) (.type T) := fun A Q E s k q => by
  obtain ⟨oc, od, dt, sl⟩ := o
  simp only at c
  subst c
  exact wpAny_typeOf ⟨_, k _ _ e, rfl⟩ q
theorem own_eq {a dx : Addr} {fs : List (Str × V)} {y : V} {u : Value} {k : Bool → Bool} (Z : EqC X.K C g) (F : FnR X.prog X.w X.K X.mg X.base CX n g sp) (hr : Room n X.A) (hx : Passes CX X E) (I : Inv X pins σ H s) (ha : H a = some (.ins C dx fs)) (ry : RelV y u)
    (q : sp [.ref a, y] H (fun z H' => ∃ b, z = .bl b ∧ Q (.bl b) H') E) : wpAny (model X.prog X.w) X.A (tryCompare (.ref a) "__eq__" u) (fun r s' => ∃ v, r = some v ∧ EP X pins σ Q v s') X.xe s := by
  obtain ⟨mA, J, _⟩ := ins_get I.hok ha
  obtain ⟨od, J, _⟩ := J.look
  refine tc_eq I.kIn J Z.eq Z.fn (wpAny_mono (wpAny_call (run_fnR (us := [.ref a, u]) (vs := [.ref a, y]) F hr hx I (.cons rfl (.cons ry .nil)) q)) (fun w s' z => ?_) fun _ _ x => x)
  obtain ⟨z', H', I', rz, b, rfl, qz⟩ := z
  cases (show w = Value.bool b from rz)
  exact ⟨b, rfl, _, rfl, .bl b, H', I', rfl, qz⟩
theorem own_ne {a dx : Addr} {fs : List (Str × V)} {y : V} {u : Value} (Z : EqC X.K C g) (F : FnR X.prog X.w X.K X.mg X.base CX n g sp) (hr : Room (n + 1) X.A) (hx : Passes CX X E) (I : Inv X pins σ H s) (ha : H a = some (.ins C dx fs)) (ry : RelV y u)
    (q : sp [.ref a, y] H (fun z H' => ∃ b, z = .bl b ∧ Q (.bl (!b)) H') E) : wpAny (model X.prog X.w) X.A (tryCompare (.ref a) "__ne__" u) (fun r s' => ∃ v, r = some v ∧ EP X pins σ Q v s') X.xe s := by
  obtain ⟨mA, J, _⟩ := ins_get I.hok ha
  obtain ⟨od, J, _⟩ := J.look
  have hu : X.A.in1.units < cLine := by have := hr.in1.units; omega
  refine tc_ne hu I.kIn J Z.ne Z.ob Z.eq Z.fn (wpAny_mono (wpAny_call (run_fnR1 (us := [.ref a, u]) (vs := [.ref a, y]) F hr hx I (.cons rfl (.cons ry .nil)) q)) (fun w s' z => ?_) fun _ _ x => x)
  obtain ⟨z', H', I', rz, b, rfl, qz⟩ := z
  cases (show w = Value.bool b from rz)
  exact ⟨b, rfl, _, rfl, .bl (!b), H', I', rfl, qz⟩
/-- the type of the other side, which is not asked first -/
theorem kd_look {y : V} {u : Value} (Z : EqC X.K C g) (I : Inv X pins σ H s) (h : Kd X.K C H y) (ry : RelV y u) : ∃ tb, Looks (model X.prog X.w) s.heap (typeOf u) tb ∧ notFirst X.K C tb = true := by
  have nf : ∀ {T : String}, subIn X.K (.type T) (.ref C) = some false → notFirst X.K C (.type T) = true := fun e => by
    unfold notFirst
    rw [e]; simp
  cases h with
  | @own a C' dx fs h n =>
    cases (show u = Value.ref a from ry)
    obtain ⟨mA, J, _⟩ := ins_get I.hok h
    obtain ⟨od, J, _⟩ := J.look
    exact ⟨_, J.type, n⟩
  | kind h =>
    cases h with
    | non => cases ry; exact ⟨_, PySem.W.Looks.of_pure rfl, nf Z.n'⟩
    | int i => obtain ⟨t, rfl⟩ := ry; exact ⟨_, PySem.W.Looks.of_pure rfl, nf Z.i'⟩
    | bl b => cases ry; exact ⟨_, PySem.W.Looks.of_pure rfl, nf Z.b'⟩
    | str x => obtain ⟨t, rfl⟩ := ry; exact ⟨_, PySem.W.Looks.of_pure rfl, nf Z.s'⟩
    | @lst a xs h =>
      cases (show u = Value.ref a from ry)
      obtain ⟨its, rv, pl, hz⟩ := I.list h
      obtain ⟨o, ho, hc, _⟩ := pl.isList
      exact ⟨_, lookT ho hc, nf Z.l'⟩
    | @tup a xs h =>
      cases (show u = Value.ref a from ry)
      obtain ⟨its, rv, ⟨o, ho, hc, _⟩, hz⟩ := I.tuple h
      exact ⟨_, lookT ho hc, nf Z.t'⟩
theorem op_eqL (Z : EqC X.K C g) (F : FnR X.prog X.w X.K X.mg X.base CX n g sp) (hr : Room n X.A) (hx : Passes CX X E) : OpR X (compareOp .Eq) (rOwnL X.K C (fun b => b) sp E) := by
  intro pins s σ H x y v u Q I rx ry h
  obtain ⟨a, dx, fs, rfl, ha, hk, q⟩ := h
  cases (show v = Value.ref a from rx)
  obtain ⟨tb, lk, nf⟩ := kd_look Z I hk ry
  obtain ⟨mA, J, _⟩ := ins_get I.hok ha
  obtain ⟨od, J, _⟩ := J.look
  exact rc_left (op := .Eq) (by have := hr.units; omega) I.kIn J lk nf (own_eq (k := fun b => b) Z F hr hx I ha ry q)
theorem op_neL (Z : EqC X.K C g) (F : FnR X.prog X.w X.K X.mg X.base CX n g sp) (hr : Room (n + 1) X.A) (hx : Passes CX X E) : OpR X (compareOp .NotEq) (rOwnL X.K C (fun b => !b) sp E) := by
  intro pins s σ H x y v u Q I rx ry h
  obtain ⟨a, dx, fs, rfl, ha, hk, q⟩ := h
  cases (show v = Value.ref a from rx)
  obtain ⟨tb, lk, nf⟩ := kd_look Z I hk ry
  obtain ⟨mA, J, _⟩ := ins_get I.hok ha
  obtain ⟨od, J, _⟩ := J.look
  exact rc_left (op := .NotEq) (by have := hr.units; omega) I.kIn J lk nf (own_ne Z F hr hx I ha ry q)
theorem ins_x {a dx : Addr} {fs : List (Str × V)} (Z : EqC X.K C g) (I : Inv X pins σ H s) (ha : H a = some (.ins C dx fs)) : InsX X.K C a dx s.heap := by
  obtain ⟨mA, J, _⟩ := ins_get I.hok ha
  obtain ⟨od, J', _⟩ := J.look
  exact ⟨I.kIn, J.obj, ⟨od, J'⟩, Z.l, Z.t⟩
theorem op_eqR (Z : EqC X.K C g) (F : FnR X.prog X.w X.K X.mg X.base CX n g sp) (hr : Room n X.A) (hx : Passes CX X E) : OpR X (compareOp .Eq) (rOwnR X.K C (fun b => b) sp E) := by
  intro pins s σ H x y v u Q I rx ry h
  obtain ⟨a, dx, fs, rfl, ha, hk, q⟩ := h
  cases (show u = Value.ref a from ry)
  obtain ⟨mA, J, _⟩ := ins_get I.hok ha
  obtain ⟨od, J, _⟩ := J.look
  have hu : X.A.units < cLine := by have := hr.units; omega
  have ix := ins_x Z I ha
  have go := own_eq (k := fun b => b) (Q := Q) Z F hr hx I ha rx q
  cases hk with
  | non => cases rx; exact rc_right (op := .Eq) (a := .none) rfl hu I.kIn J Z.n PySem.F.slot_NoneType_eq (fun _ hq => call_gives PySem.F.slot_NoneType_eq rfl PySem.F.entry_NoneType_eq (PySem.F.args_NoneType_eq_2 _ _) (SeqAt.NoneType___eq___none_ref_0 a) hq) go
  | int i => obtain ⟨t, rfl⟩ := rx; exact rc_right (op := .Eq) (typeIs_int s i t) hu I.kIn J Z.i PySem.F.slot_int_eq (fun _ hq => call_meets PySem.F.slot_int_eq (typeIs_int s i t) PySem.F.entry_int_eq (PySem.F.args_int_eq_2 _ _) (intEq_dec i t) ⟨ix, hq⟩) go
  | bl b => cases rx; exact rc_right (op := .Eq) (a := .bool b) rfl hu I.kIn J Z.b PySem.F.slot_bool_eq (fun _ hq => call_meets PySem.F.slot_bool_eq rfl PySem.F.entry_int_eq (PySem.F.args_int_eq_2 _ _) (bolEq_dec b) ⟨ix, hq⟩) go
  | str x => obtain ⟨t, rfl⟩ := rx; exact rc_right (op := .Eq) (typeIs_str s x t) hu I.kIn J Z.s PySem.F.slot_str_eq (fun _ hq => call_meets PySem.F.slot_str_eq (typeIs_str s x t) PySem.F.entry_str_eq (PySem.F.args_str_eq_2 _ _) (strEq_dec x t) ⟨ix, hq⟩) go
  | @lst l xs h =>
    cases (show v = Value.ref l from rx)
    obtain ⟨its, rv, pl, hz⟩ := I.list h
    obtain ⟨⟨oc, od', dt, sl⟩, ho, hc, _⟩ := pl.isList
    simp only at hc
    subst hc
    exact rc_right (op := .Eq) ⟨_, ho, rfl⟩ hu I.kIn J Z.l PySem.F.slot_list_eq (fun _ hq => call_meets PySem.F.slot_list_eq ⟨_, ho, rfl⟩ PySem.F.entry_list_eq (PySem.F.args_list_eq_2 _ _) (listEq_dec l) ⟨ix, hq⟩) go
  | @tup l xs h =>
    cases (show v = Value.ref l from rx)
    obtain ⟨its, rv, ⟨⟨oc, od', dt, sl⟩, ho, hc, _⟩, hz⟩ := I.tuple h
    simp only at hc
    subst hc
    exact rc_right (op := .Eq) ⟨_, ho, rfl⟩ hu I.kIn J Z.t PySem.F.slot_tuple_eq (fun _ hq => call_meets PySem.F.slot_tuple_eq ⟨_, ho, rfl⟩ PySem.F.entry_tuple_eq (PySem.F.args_tuple_eq_2 _ _) (tupEq_dec l) ⟨ix, hq⟩) go
theorem op_neR (Z : EqC X.K C g) (F : FnR X.prog X.w X.K X.mg X.base CX n g sp) (hr : Room (n + 1) X.A) (hx : Passes CX X E) : OpR X (compareOp .NotEq) (rOwnR X.K C (fun b => !b) sp E) := by
  intro pins s σ H x y v u Q I rx ry h
  obtain ⟨a, dx, fs, rfl, ha, hk, q⟩ := h
  cases (show u = Value.ref a from ry)
  obtain ⟨mA, J, _⟩ := ins_get I.hok ha
  obtain ⟨od, J, _⟩ := J.look
  have hu : X.A.units < cLine := by have := hr.units; omega
  have ix := ins_x Z I ha
  have go := own_ne (Q := Q) Z F hr hx I ha rx q
  cases hk with
  | non => cases rx; exact rc_right (op := .NotEq) (a := .none) rfl hu I.kIn J Z.n PySem.F.slot_NoneType_ne (fun _ hq => call_gives PySem.F.slot_NoneType_ne rfl PySem.F.entry_NoneType_ne (PySem.F.args_NoneType_ne_2 _ _) (SeqAt.NoneType___ne___none_ref_0 a) hq) go
  | int i => obtain ⟨t, rfl⟩ := rx; exact rc_right (op := .NotEq) (typeIs_int s i t) hu I.kIn J Z.i PySem.F.slot_int_ne (fun _ hq => call_meets PySem.F.slot_int_ne (typeIs_int s i t) PySem.F.entry_int_ne (PySem.F.args_int_ne_2 _ _) (intNe_dec i t) ⟨ix, hq⟩) go
  | bl b => cases rx; exact rc_right (op := .NotEq) (a := .bool b) rfl hu I.kIn J Z.b PySem.F.slot_bool_ne (fun _ hq => call_meets PySem.F.slot_bool_ne rfl PySem.F.entry_int_ne (PySem.F.args_int_ne_2 _ _) (bolNe_dec b) ⟨ix, hq⟩) go
  | str x => obtain ⟨t, rfl⟩ := rx; exact rc_right (op := .NotEq) (typeIs_str s x t) hu I.kIn J Z.s PySem.F.slot_str_ne (fun _ hq => call_meets PySem.F.slot_str_ne (typeIs_str s x t) PySem.F.entry_str_ne (PySem.F.args_str_ne_2 _ _) (strNe_dec x t) ⟨ix, hq⟩) go
  | @lst l xs h =>
    cases (show v = Value.ref l from rx)
    obtain ⟨its, rv, pl, hz⟩ := I.list h
    obtain ⟨⟨oc, od', dt, sl⟩, ho, hc, _⟩ := pl.isList
    simp only at hc
    subst hc
    exact rc_right (op := .NotEq) ⟨_, ho, rfl⟩ hu I.kIn J Z.l PySem.F.slot_list_ne (fun _ hq => call_meets PySem.F.slot_list_ne ⟨_, ho, rfl⟩ PySem.F.entry_list_ne (PySem.F.args_list_ne_2 _ _) (listNe_dec l) ⟨ix, hq⟩) go
  | @tup l xs h =>
    cases (show v = Value.ref l from rx)
    obtain ⟨its, rv, ⟨⟨oc, od', dt, sl⟩, ho, hc, _⟩, hz⟩ := I.tuple h
    simp only at hc
    subst hc
    exact rc_right (op := .NotEq) ⟨_, ho, rfl⟩ hu I.kIn J Z.t PySem.F.slot_tuple_ne (fun _ hq => call_meets PySem.F.slot_tuple_ne ⟨_, ho, rfl⟩ PySem.F.entry_tuple_ne (PySem.F.args_tuple_ne_2 _ _) (tupNe_dec l) ⟨ix, hq⟩) go
/-- from either side -/
def rOwnE (K : PySem.W.Frag) (C : Addr) (k : Bool → Bool) (sp : Sp) (E : XK) : R2 := fun x y H Q => rOwnL K C k sp E x y H Q ∨ rOwnR K C k sp E x y H Q
theorem op_eqO (Z : EqC X.K C g) (F : FnR X.prog X.w X.K X.mg X.base CX n g sp) (hr : Room n X.A) (hx : Passes CX X E) : OpR X (compareOp .Eq) (rOwnE X.K C (fun b => b) sp E) := by
  intro pins s σ H x y v u Q I rx ry h
  rcases h with h | h
  · exact op_eqL Z F hr hx pins s σ H x y v u Q I rx ry h
  · exact op_eqR Z F hr hx pins s σ H x y v u Q I rx ry h
theorem op_neO (Z : EqC X.K C g) (F : FnR X.prog X.w X.K X.mg X.base CX n g sp) (hr : Room (n + 1) X.A) (hx : Passes CX X E) : OpR X (compareOp .NotEq) (rOwnE X.K C (fun b => !b) sp E) := by
  intro pins s σ H x y v u Q I rx ry h
  rcases h with h | h
  · exact op_neL Z F hr hx pins s σ H x y v u Q I rx ry h
  · exact op_neR Z F hr hx pins s σ H x y v u Q I rx ry h
end
end Pd

namespace Pd
open PySem L2
def top (i : Nat) : Stmt := PySem.Challenge.pw_plaindoors_k00_errors.main.body.getD i (.Pass ⟨0, 0, 0, 0⟩)
abbrev sNostepInit : Stmt := inClass (top 5) 0
abbrev sNodeedInit : Stmt := inClass (top 6) 0
abbrev sNoformInit : Stmt := inClass (top 7) 0
abbrev sNopartInit : Stmt := inClass (top 8) 0
abbrev sNolineInit : Stmt := inClass (top 9) 0
abbrev sLawJar : Stmt := top 11
abbrev sLawDraw : Stmt := top 12
abbrev sLawThing : Stmt := top 13
abbrev sLawSame : Stmt := top 14
abbrev sLawClasses : Stmt := top 15
abbrev sLawErrors : Stmt := top 16
abbrev sLawHolds : Stmt := top 17
abbrev sLaw : Stmt := top 18
theorem scNostepInit : FnScope ["self", "index"] ["self", "index"] (defScope sNostepInit) := ⟨rfl, rfl, rfl, by decide +kernel, rfl, by decide +kernel, by decide +kernel⟩
theorem scNodeedInit : FnScope ["self", "index"] ["self", "index"] (defScope sNodeedInit) := ⟨rfl, rfl, rfl, by decide +kernel, rfl, by decide +kernel, by decide +kernel⟩
theorem scNoformInit : FnScope ["self", "form"] ["self", "form"] (defScope sNoformInit) := ⟨rfl, rfl, rfl, by decide +kernel, rfl, by decide +kernel, by decide +kernel⟩
theorem scNopartInit : FnScope ["self", "part"] ["self", "part"] (defScope sNopartInit) := ⟨rfl, rfl, rfl, by decide +kernel, rfl, by decide +kernel, by decide +kernel⟩
theorem scNolineInit : FnScope ["self", "line"] ["self", "line"] (defScope sNolineInit) := ⟨rfl, rfl, rfl, by decide +kernel, rfl, by decide +kernel, by decide +kernel⟩
theorem scLawJar : FnScope ["script", "k", "cell"] ["script", "k"] (defScope sLawJar) := ⟨rfl, rfl, rfl, by decide +kernel, rfl, by decide +kernel, by decide +kernel⟩
theorem scLawDraw : FnScope ["jar", "many", "found", "stirred"] ["jar", "many"] (defScope sLawDraw) := ⟨rfl, rfl, rfl, by decide +kernel, rfl, by decide +kernel, by decide +kernel⟩
theorem scLawThing : FnScope ["jar", "number", "word", "k"] ["jar"] (defScope sLawThing) := ⟨rfl, rfl, rfl, by decide +kernel, rfl, by decide +kernel, by decide +kernel⟩
theorem scLawSame : FnScope ["found", "due"] ["found", "due"] (defScope sLawSame) := ⟨rfl, rfl, rfl, by decide +kernel, rfl, by decide +kernel, by decide +kernel⟩
theorem scLawClasses : FnScope ["error", "found"] ["error"] (defScope sLawClasses) := ⟨rfl, rfl, rfl, by decide +kernel, rfl, by decide +kernel, by decide +kernel⟩
theorem scLawErrors : FnScope ["word", "thing", "by_name", "plain"] ["word", "thing", "by_name"] (defScope sLawErrors) := ⟨rfl, rfl, rfl, by decide +kernel, rfl, by decide +kernel, by decide +kernel⟩
theorem scLawHolds : FnScope ["errors", "thing", "at", "fields", "k", "field"] ["errors", "thing"] (defScope sLawHolds) := ⟨rfl, rfl, rfl, by decide +kernel, rfl, by decide +kernel, by decide +kernel⟩
theorem scLaw : FnScope ["script", "held", "k", "jar", "word", "thing", "errors", "due", "j"] ["script"] (defScope sLaw) := ⟨rfl, rfl, rfl, by decide +kernel, rfl, by decide +kernel, by decide +kernel⟩
end Pd

set_option maxHeartbeats 4000000
namespace Pd
open PySem PySem.Spec PyProof.Rows L2 SX
/-! ### bundles -/
/-- a def that may be called by its name, all its arguments by position -/
structure Cl (P : Program) (w : World) (K : PySem.W.Frag) (mg : Str → Option Value) (base : Heap) (k : Nat) (x : Str) (sp : Sp) : Prop where
  ex : ∃ (f : Addr) (fd : FuncData) (ps : List Str), FnOk P w K mg base CX0 k f fd ps sp ∧ mg x = some (.ref f) ∧ PySem.W.keepIn K (.ref f) = true ∧ Binds K fd ps []
/-- .. that gives a new text -/
structure ClT (P : Program) (w : World) (K : PySem.W.Frag) (mg : Str → Option Value) (base : Heap) (k : Nat) (x : Str) (sp : Sp) : Prop where
  ex : ∃ (f : Addr), FnT P w K mg base CX0 k f sp ∧ mg x = some (.ref f) ∧ PySem.W.keepIn K (.ref f) = true
/-- a def as it stands behind the top -/
structure Df (K : PySem.W.Frag) (mg : Str → Option Value) (x : Str) (st : Stmt) (f : Addr) (fd : FuncData) : Prop where
  fn : Fun K x x st f fd
  mgf : mg x = some (.ref f)
  kp : PySem.W.keepIn K (.ref f) = true
def E0 : XK := fun _ _ _ => False
section
variable {X : Cx} {k j : Nat} {x : Str} {sp : Sp} {p pos : Pos} {e : Expr} {es : List Expr} {t : TA}
theorem pe_cl (c : Cl X.prog X.w X.K X.mg X.base k x sp) (hr : Room j X.A) (hk : k ≤ j) (hg : Gl X x) (ha : PA X (e :: es) t)
    (hdb : (x == ("__debug__" : Str)) = false := by decide) (he : starEach (e :: es) X.env = (false, eval e X.env) :: starEach es X.env := by rfl) (hpl : (backTo pos (starEach es X.env)).any (·.1) = false := by rfl) :
    PE X (.Call (.Name x p) (e :: es) [] pos) (tCall sp [] E0 t) := by
  obtain ⟨f, fd, ps, F, hm, kp, b⟩ := c.ex
  exact pe_call F (hr.mono hk) hg hm kp b .nil pass0 ha hdb he hpl
theorem pef_cl (c : ClT X.prog X.w X.K X.mg X.base k x sp) (hr : Room j X.A) (hk : k ≤ j) (hg : Gl X x) (ha : PA X (e :: es) t)
    (hdb : (x == ("__debug__" : Str)) = false := by decide) (he : starEach (e :: es) X.env = (false, eval e X.env) :: starEach es X.env := by rfl) (hpl : (backTo pos (starEach es X.env)).any (·.1) = false := by rfl) :
    PEF X (.Call (.Name x p) (e :: es) [] pos) (fun σ H Q => t σ H fun vs H1 => sp vs H1 Q E0) := by
  obtain ⟨f, F, hm, kp⟩ := c.ex
  exact pef_call F (hr.mono hk) hg hm kp pass0 ha hdb he hpl
end
/-! ### what the top has bound -/
structure Nms (mg : Str → Option Value) : Prop where
  len : mg "len" = none
  int : mg "int" = none
  abs : mg "abs" = none
  max : mg "max" = none
  min : mg "min" = none
  range : mg "range" = none
  isi : mg "isinstance" = none
  str : mg "str" = none
  tuple : mg "tuple" = none
  bool : mg "bool" = none
  all : mg "all" = none
  set : mg "set" = none
  enum : mg "enumerate" = none
theorem powW_ok2 {i j : Int} {a : Nat} (h : i.natAbs < 2 ^ a) (h0 : 0 < a) (hj : 0 ≤ j) (hj2 : j ≤ 1000) (ha : a ≤ 100000) : CPowW i j := by
  refine ⟨hj, ?_⟩
  have e := bits_lt h h0
  have e2 : (Builtin.Int.intBits i : Int) ≤ 100000 := by omega
  have e3 : (0:Int) ≤ (Builtin.Int.intBits i : Int) := by omega
  have : (Builtin.Int.intBits i : Int) * j ≤ 100000 * 1000 := Int.mul_le_mul e2 hj2 hj (by omega)
  omega
theorem p36 : (10 : Int) ^ (36 : Int).toNat + 67 = 1000000000000000000000000000000000067 := by decide +kernel
theorem p18 : (10 : Int) ^ (18 : Int).toNat = 1000000000000000000 := by decide +kernel
theorem p42 : (10 : Int) ^ (42 : Int).toNat + 63 = 1000000000000000000000000000000000000000063 := by decide +kernel
theorem p40 : (10 : Int) ^ (40 : Int).toNat + 121 = 10000000000000000000000000000000000000121 := by decide +kernel
theorem p6 : (10 : Int) ^ (6 : Int).toNat = 1000000 := by decide +kernel
/-! ### heaps -/
/-- only the object at j may have changed -/
def Kp (j : Addr) (H H' : Hp) : Prop := ∀ b o, b ≠ j → H b = some o → H' b = some o
theorem Kp.refl {j : Addr} {H : Hp} : Kp j H H := fun _ _ _ h => h
theorem Kp.trans {j : Addr} {H H' H'' : Hp} (a : Kp j H H') (b : Kp j H' H'') : Kp j H H'' := fun c o n h => b c o n (a c o n h)
theorem Kp.upd {j : Addr} {H : Hp} {o : HO} : Kp j H (upd H j o) := fun b u n h => by rw [upd_ne n]; exact h
theorem Kp.new {j l : Addr} {H H' : Hp} {o : HO} (a : Kp j H H') (hl : H' l = none) : Kp j H (L2.upd H' l o) := fun b u n h => by
  rw [upd_ne (ne_of_none (a b u n h) hl)]
  exact a b u n h
/-- the jar: its three numbers; at most n draws so far -/
def JarAt (H : Hp) (j : Addr) (n : Nat) : Prop := ∃ a b c : Int, H j = some (.lst [.int a, .int b, .int c]) ∧ 0 ≤ a ∧ 0 ≤ b ∧ b < 10 ^ 40 ∧ 0 ≤ c ∧ c ≤ n
theorem JarAt.le {H : Hp} {j : Addr} {n m : Nat} (h : JarAt H j n) (l : n ≤ m) : JarAt H j m := by
  obtain ⟨a, b, c, h1, h2, h3, h4, h5, h6⟩ := h
  exact ⟨a, b, c, h1, h2, h3, h4, h5, by omega⟩
theorem JarAt.new {H : Hp} {j l : Addr} {n : Nat} {o : HO} (h : JarAt H j n) (hl : H l = none) : JarAt (L2.upd H l o) j n := by
  obtain ⟨a, b, c, h1, r⟩ := h
  exact ⟨a, b, c, by rw [upd_ne (ne_of_none h1 hl)]; exact h1, r⟩
/-! ### promises -/
def spJar (K : PySem.W.Frag) : Sp := fun vs H Q _ => ∃ (a : Addr) (ns : List Int) (k : Int), vs = [.ref a, .int k] ∧ SqL K H a (ns.map V.int) ∧ ns.length ≤ 63 ∧ 0 ≤ k ∧ k < 100 ∧
  ∀ j H', H j = none → JarAt H' j 0 → (∀ b o, H b = some o → H' b = some o) → Q (.ref j) H'
def spDraw : Sp := fun vs H Q _ => ∃ (j : Addr) (m : Int) (n : Nat), vs = [.ref j, .int m] ∧ JarAt H j n ∧ n < 1000000 ∧ 1 ≤ m ∧ m ≤ 100000000000000000000000000000000000000000000000000 ∧
  ∀ r H', 0 ≤ r → r < m → JarAt H' j (n + 1) → Kp j H H' → Q (.int r) H'
def spSign : Sp := fun vs H Q _ => ∃ (j : Addr) (n : Nat), vs = [.ref j] ∧ JarAt H j n ∧ n < 1000000 ∧
  ∀ c H', c ∈ CH → JarAt H' j (n + 1) → Kp j H H' → Q (.str ⟨#[c]⟩) H'
section
variable {P : Program} {w : World} {K : PySem.W.Frag} {mg : Str → Option Value} {base : Heap}
def jarT : TE := (tLst (tCons (tCB (fun xs H Q => ∃ i j, xs = [V.int i, V.int j] ∧ Q (V.int (if j > i then j else i)) H)
            (tCons (tC (V.int 0)) (tCons (tOp (rI0 fun i j => V.int (i - j)) (tVar 2) (tOp (rI CPowW fun i j => V.int (i ^ j.toNat)) (tC (V.int 10)) (tC (V.int 18)))) tNil)))
          (tCons (tOp (rI0 fun i j => V.int (i + j)) (tOp (rI (fun _ j => 0 < j) fun i j => V.int (i % j))
                (tCB (fun xs H Q => (∃ i, xs = [V.int i] ∧ Q (V.int i) H) ∨ ∃ k, xs = [V.bl k] ∧ Q (V.int (if k = true then 1 else 0)) H) (tCons (tVar 2) tNil))
                (tOp (rI0 fun i j => V.int (i + j)) (tOp (rI CPowW fun i j => V.int (i ^ j.toNat)) (tC (V.int 10)) (tC (V.int 36))) (tC (V.int 67))))
              (tOp (rI CMul fun i j => V.int (i * j)) (tC (V.int 1299709)) (tVar 1)))
            (tCons (tC (V.int 0)) tNil))))
theorem jar_tail {a : Addr} {k z : Int} {H : Hp} {Q : VK} (hk0 : 0 ≤ k) (hk1 : k < 100) (hz0 : 0 ≤ z) (q : ∀ j H', H j = none → JarAt H' j 0 → (∀ b o, H b = some o → H' b = some o) → Q (.ref j) H') :
    jarT [some (.ref a), some (.int k), some (.int z)] H Q := by
  have pw : ∀ e : Int, 0 ≤ e → e ≤ 1000 → CPowW 10 e := fun e h0 h1 => powW_ok2 (a := 4) (by decide) (by decide) h0 h1 (by decide)
  refine ⟨_, rfl, _, _, rfl, rfl, pw 18 (by decide) (by decide), _, _, rfl, rfl, _, _, rfl, _, rfl, .inl ⟨_, rfl, _, _, rfl, rfl, pw 36 (by decide) (by decide), _, _, rfl, rfl, _, _, rfl, rfl, (show (0:Int) < 10 ^ (36 : Int).toNat + 67 by rw [p36]; decide),
    _, rfl, _, _, rfl, rfl, .inl ⟨by decide, by decide⟩, _, _, rfl, rfl, by show 3 ≤ sizeLine; decide, fun l hl => ?_⟩⟩
  refine q l _ hl ⟨_, _, _, upd_same, ?_, ?_, ?_, by decide, by decide⟩ fun b o h => by rw [upd_ne (ne_of_none h hl)]; exact h
  · split <;> omega
  · rw [p36]; omega
  · rw [p36]; omega
theorem ok_jar {f : Addr} {fd : FuncData} (F : Fun K "_law_jar" "_law_jar" sLawJar f fd) (T : Nms mg) : FnOk P w K mg base CX0 1 f fd ["script", "k"] (spJar K) := by
  refine F.ok scLawJar (fun vs H Q E h => ?_) (fun cdv A outer s H vs Q E hr h => ?_)
  · obtain ⟨a, ns, k, rfl, _⟩ := h
    rfl
  · obtain ⟨a, ns, k, rfl, hS, hl, hk0, hk1, q⟩ := h
    have nd := scLawJar.nd
    refine ⟨_, pss_cons (ps_set (i := 2) nd rfl (Or.inl rfl) (pe_ifExp (pt_cmpR op_lt (pv 1) (pe_callB call_len_seq (by rfl) T.len PySem.boot_len (pa_cons (pv 0) pa_nil)) (nomark _))
        (pe_callB call_abs (by rfl) T.abs (by decide +kernel) (pa_cons (pe_callTy call_int1 (by rfl) T.int (by decide +kernel) (pa_cons (pe_ix ix_list (pv 0) (pv 1) (fun _ _ => rfl)) pa_nil)) pa_nil)) pe_int))
      (pss_one (ps_ret (pe_lst (pa_cons (pe_callB (call_max2 rfl) (by rfl) T.max (by decide +kernel) (pa_cons pe_int (pa_cons (pe_op op_sub (pv 2) (pe_op op_powW pe_int pe_int)) pa_nil)))
        (pa_cons (pe_op op_add (pe_op op_mod (pe_callTy call_int1 (by rfl) T.int (by decide +kernel) (pa_cons (pv 2) pa_nil)) (pe_op op_add (pe_op op_powW pe_int pe_int) pe_int)) (pe_op op_mul pe_int (pv 1)))
        (pa_cons pe_int pa_nil)))))), ?_⟩
    refine ⟨_, rfl, _, rfl, a, _, rfl, .inl hS, _, _, rfl, rfl, _, rfl, ite2 (fun hlt => ?_) (fun _ => ?_)⟩
    · rw [List.length_map] at hlt
      have hlt' := of_decide_eq_true hlt
      have hkn : k.toNat < ns.length := by omega
      have hat : atI (ns.map V.int) k = some (.int (ns[k.toNat]'hkn)) := by
        have e : ((k.toNat : Nat) : Int) = k := by omega
        have z := atI_nat (xs := ns.map V.int) (j := k.toNat) (v := .int (ns[k.toNat]'hkn)) (by simp [hkn])
        rw [e] at z
        exact z
      refine ⟨_, rfl, _, rfl, a, _, _, _, rfl, rfl, hS, hat, .inl ⟨_, rfl, _, rfl, ?_⟩⟩
      generalize hz : (if ns[k.toNat] < 0 then -ns[k.toNat] else ns[k.toNat]) = z
      have hz0 : 0 ≤ z := by rw [← hz]; split <;> omega
      exact jar_tail hk0 hk1 hz0 q
    · exact jar_tail (z := 0) hk0 hk1 (by decide) q
theorem ok_draw {f : Addr} {fd : FuncData} (F : Fun K "_law_draw" "_law_draw" sLawDraw f fd) (T : Nms mg) : FnOk P w K mg base CX0 1 f fd ["jar", "many"] spDraw := by
  refine F.ok scLawDraw (fun vs H Q E h => ?_) (fun cdv A outer s H vs Q E hr h => ?_)
  · obtain ⟨j, m, n, rfl, _⟩ := h
    rfl
  · obtain ⟨j, m, n, rfl, hJ, hn, hm1, hm2, q⟩ := h
    have nd := scLawDraw.nd
    obtain ⟨a, b, c, hj, ha, hb0, hb, hc0, hc⟩ := hJ
    have S : ∀ {H : Hp} {xs : List V}, H j = some (.lst xs) → SqL K H j xs := fun h => SqL.of h
    refine ⟨_, pss_cons (ps_if (pt_cmpR op_gt (pe_ix ix_list (pv 0) pe_int (fun _ _ => rfl)) pe_int (nomark _))
        (pss_cons (ps_set (i := 2) nd rfl (Or.inl rfl) (pe_op op_mod (pe_callTy call_int1 (by rfl) T.int (by decide +kernel) (pa_cons (pe_ix ix_list (pv 0) pe_int (fun _ _ => rfl)) pa_nil)) (pv 1)))
        (pss_cons (ps_asg (pe_op op_fdivW (pe_ix ix_list (pv 0) pe_int (fun _ _ => rfl)) (pv 1)) (pg_sub (pv 0) pe_int set_list))
        (pss_one (ps_ret (pv 2))))) pss_nil)
      (pss_cons (ps_asg (pe_op op_add (pe_ix ix_list (pv 0) pe_int (fun _ _ => rfl)) pe_int) (pg_sub (pv 0) pe_int set_list))
      (pss_cons (ps_set (i := 3) nd rfl (Or.inl rfl) (pe_op op_mod (pe_callTy call_int1 (by rfl) T.int (by decide +kernel) (pa_cons
          (pe_op op_add (pe_op op_powW (pe_op op_add (pe_ix ix_list (pv 0) pe_int (fun _ _ => rfl)) (pe_op op_mul pe_int (pe_ix ix_list (pv 0) pe_int (fun _ _ => rfl)))) pe_int) (pe_op op_mul pe_int (pe_ix ix_list (pv 0) pe_int (fun _ _ => rfl)))) pa_nil))
          (pe_op op_add (pe_op op_powW pe_int pe_int) pe_int)))
      (pss_cons (ps_set (i := 3) nd rfl (Or.inl rfl) (pe_op op_mod (pe_callTy call_int1 (by rfl) T.int (by decide +kernel) (pa_cons
          (pe_op op_powW (pe_op op_add (pv 3) (pe_op op_mul pe_int (pe_ix ix_list (pv 0) pe_int (fun _ _ => rfl)))) pe_int) pa_nil))
          (pe_op op_add (pe_op op_powW pe_int pe_int) pe_int)))
      (pss_one (ps_ret (pe_op op_mod (pe_callTy call_int1 (by rfl) T.int (by decide +kernel) (pa_cons (pe_op op_fdivW (pv 3) (pe_op op_powW pe_int pe_int)) pa_nil)) (pv 1))))))), ?_⟩
    have pw : ∀ e : Int, 0 ≤ e → e ≤ 1000 → CPowW 10 e := fun e h0 h1 => powW_ok2 (a := 4) (by decide) (by decide) h0 h1 (by decide)
    have m20 : m.natAbs < 2 ^ 170 := by
      have : (2:Nat)^170 = 1496577676626844588240573268701473812127674924007424 := by decide +kernel
      omega
    refine ⟨_, rfl, j, _, 0, _, rfl, rfl, S hj, rfl, _, _, rfl, rfl, _, rfl, ite2 (fun hlt => ?_) (fun hlt => ?_)⟩
    · refine ⟨_, rfl, j, _, 0, _, rfl, rfl, S hj, rfl, .inl ⟨_, rfl, _, rfl, _, _, rfl, rfl, (show 0 < m by omega), ?_⟩⟩
      refine ⟨_, rfl, j, _, 0, _, rfl, rfl, S hj, rfl, _, rfl, _, _, rfl, rfl, wide_div (by omega) m20 (by decide) (by decide), ?_⟩
      refine ⟨_, rfl, j, _, 0, 0, rfl, rfl, hj, rfl, _, rfl, ?_⟩
      refine q _ _ (Int.emod_nonneg _ (by omega)) (Int.emod_lt_of_pos _ (by omega)) ⟨a / m, b, c, upd_same, Int.ediv_nonneg ha (by omega), hb0, hb, hc0, by omega⟩ .upd
    · refine ⟨_, rfl, j, _, 2, _, rfl, rfl, S hj, rfl, _, _, rfl, rfl, _, rfl, j, _, 2, 2, rfl, rfl, hj, rfl, ?_⟩
      have hj2 : (L2.upd H j (.lst [V.int a, V.int b, V.int (c + 1)])) j = some (.lst [V.int a, V.int b, V.int (c + 1)]) := upd_same
      show tSeq _ _ _ _ (L2.upd H j (.lst [V.int a, V.int b, V.int (c + 1)]))
      have l140 : (2:Nat)^140 = 1393796574908163946345982392040522594123776 := by decide +kernel
      refine ⟨_, rfl, j, _, 1, _, rfl, rfl, S hj2, rfl, _, rfl, j, _, 2, _, rfl, rfl, S hj2, rfl, _, _, rfl, rfl, .inl ⟨by decide, by decide⟩, _, _, rfl, rfl, _, _, rfl, rfl, powW_ok2 (a := 140) (by rw [l140]; omega) (by decide) (by decide) (by decide) (by decide),
        _, rfl, j, _, 2, _, rfl, rfl, S hj2, rfl, _, _, rfl, rfl, .inl ⟨by decide, by decide⟩, _, _, rfl, rfl, .inl ⟨_, rfl, _, _, rfl, rfl, pw 42 (by decide) (by decide), _, _, rfl, rfl, _, _, rfl, rfl, (show (0:Int) < 10 ^ (42 : Int).toNat + 63 by rw [p42]; decide), ?_⟩⟩
      generalize hs : ((b + 15485867 * (c + 1)) ^ Int.toNat 4 + 3 * (c + 1)) % (10 ^ Int.toNat 42 + 63) = st
      have hs0 : 0 ≤ st := by rw [← hs]; exact Int.emod_nonneg _ (by rw [p42]; decide)
      have hs1 : st < 1000000000000000000000000000000000000000063 := by rw [← hs, p42]; exact Int.emod_lt_of_pos _ (by decide)
      refine ⟨_, rfl, _, rfl, j, _, 2, _, rfl, rfl, S hj2, rfl, _, _, rfl, rfl, .inl ⟨by decide, by decide⟩, _, _, rfl, rfl, _, _, rfl, rfl, powW_ok2 (a := 140) (by rw [l140]; omega) (by decide) (by decide) (by decide) (by decide),
        .inl ⟨_, rfl, _, _, rfl, rfl, pw 40 (by decide) (by decide), _, _, rfl, rfl, _, _, rfl, rfl, (show (0:Int) < 10 ^ (40 : Int).toNat + 121 by rw [p40]; decide), ?_⟩⟩
      refine ⟨_, rfl, _, _, rfl, rfl, pw 6 (by decide) (by decide), _, _, rfl, rfl, wide_div (b := 20) (by rw [p6]; decide) (by rw [p6]; decide) (by decide) (by decide), .inl ⟨_, rfl, _, rfl, _, _, rfl, rfl, (show 0 < m by omega), ?_⟩⟩
      exact q _ _ (Int.emod_nonneg _ (by omega)) (Int.emod_lt_of_pos _ (by omega)) ⟨a, b, c + 1, upd_same, ha, hb0, hb, by omega, by omega⟩ .upd
end
end Pd

set_option maxHeartbeats 4000000
namespace Pd
open PySem PySem.Spec PyProof.Rows L2 SX
def sg (c : Nat) : Str := ⟨#[c]⟩
theorem sg_S (c : Nat) : sg c = S [c] := rfl
/-- eight signs, in a list whose tokens are known -/
structure SgnsAt (H : Hp) (a : Addr) (gs : List Nat) : Prop where
  at_ : TxtsAt H a (gs.map sg)
  len : gs.length = 8
  ok : ∀ c ∈ gs, c ∈ CH
theorem SgnsAt.kp {H H' : Hp} {j a : Addr} {gs : List Nat} (h : SgnsAt H a gs) (k : Kp j H H') (hj : ∃ xs, H j = some (.lst xs)) : SgnsAt H' a gs := by
  refine ⟨?_, h.len, h.ok⟩
  obtain ⟨its, n, m, q, e, r⟩ := h.at_
  obtain ⟨xs, hj⟩ := hj
  have ne : a ≠ j := by rintro rfl; rw [e] at hj; cases hj
  exact ⟨its, n, m, q, k a _ ne e, r⟩
theorem SgnsAt.new {H : Hp} {l a : Addr} {gs : List Nat} {o : HO} (h : SgnsAt H a gs) (hl : H l = none) : SgnsAt (L2.upd H l o) a gs := by
  refine ⟨?_, h.len, h.ok⟩
  obtain ⟨its, n, m, q, e, r⟩ := h.at_
  exact ⟨its, n, m, q, by rw [upd_ne (ne_of_none e hl)]; exact e, r⟩
theorem SgnsAt.ne {H : Hp} {j a : Addr} {gs : List Nat} {xs : List V} (h : SgnsAt H a gs) (hj : H j = some (.lst xs)) : a ≠ j := by
  obtain ⟨its, n, m, q, e, r⟩ := h.at_
  rintro rfl; rw [e] at hj; cases hj
theorem JarAt.lst {H : Hp} {j : Addr} {n : Nat} (h : JarAt H j n) : ∃ xs, H j = some (.lst xs) := by
  obtain ⟨a, b, c, h1, _⟩ := h
  exact ⟨_, h1⟩
theorem JarAt.kp {H H' : Hp} {j : Addr} {n : Nat} (h : JarAt H j n) (e : H' j = H j) : JarAt H' j n := by
  obtain ⟨a, b, c, h1, r⟩ := h
  exact ⟨a, b, c, e.trans h1, r⟩
theorem S_at {l : List Nat} {i : Nat} (h : i < l.length) : (S l).cps[i]? = some l[i] := by
  show l.toArray[i]? = _
  simp [h]
theorem abc_S : ("abcdefghijklmnopqrstuvwxyz" : Str) = S (CH.take 26) := by decide +kernel
theorem digits_S : ("0123456789" : Str) = S ((CH.drop 52).take 10) := by decide +kernel
theorem small_CH : ∀ c ∈ CH.take 26, c ∈ CH ∧ c < 128 ∧ up1 c ∈ CH := by decide
theorem dig_CH : ∀ c ∈ (CH.drop 52).take 10, c ∈ CH := by decide
def spSigns : Sp := fun vs H Q _ => ∃ (j : Addr) (n : Nat), vs = [.ref j] ∧ JarAt H j n ∧ n + 6 < 1000000 ∧
  ∀ p gs H', H p = none → SgnsAt H' p gs → JarAt H' j (n + 6) → Kp j H H' → Q (.ref p) H'
theorem upper_sg {c : Nat} (h : c < 128) : Txt.upper (sg c) = sg (up1 c) := upper_S (a := [c]) (by simpa using h)
section
variable {P : Program} {w : World} {K : PySem.W.Frag} {mg : Str → Option Value} {base : Heap}
end
end Pd

set_option maxHeartbeats 4000000
namespace Pd
open PySem PySem.Spec PyProof.Rows L2 SX
/-! ### repeated texts -/
theorem fold_rep (x : List Nat) : ∀ (k : Nat) (acc : Array Nat), ∃ m : List Nat, ((List.replicate k x.toArray).foldl (· ++ ·) acc) = (acc.toList ++ m).toArray ∧ m.length = k * x.length ∧ ∀ c ∈ m, c ∈ x
  | 0, acc => ⟨[], by simp, by simp, fun _ h => nomatch h⟩
  | k + 1, acc => by
    obtain ⟨m, e, l, h⟩ := fold_rep x k (acc ++ x.toArray)
    refine ⟨x ++ m, ?_, by rw [List.length_append, l, Nat.add_one_mul]; omega, fun c hc => ?_⟩
    · rw [List.replicate_succ, List.foldl_cons, e]
      simp
    · rcases List.mem_append.mp hc with hc | hc
      · exact hc
      · exact h c hc
theorem mul_S (l : List Nat) {n : Int} (h0 : 0 ≤ n) : ∃ m : List Nat, Txt.mul (S l) n = S m ∧ m.length ≤ n.toNat * l.length ∧ ∀ c ∈ m, c ∈ l := by
  unfold Txt.mul
  split
  · exact ⟨[], rfl, by simp, fun _ h => nomatch h⟩
  · split
    · refine ⟨l, rfl, ?_, fun _ h => h⟩
      have : 1 ≤ n.toNat := by omega
      calc l.length = 1 * l.length := (Nat.one_mul _).symm
        _ ≤ n.toNat * l.length := Nat.mul_le_mul_right _ this
    · obtain ⟨m, e, hl, hm⟩ := fold_rep l n.toNat #[]
      refine ⟨m, ?_, Nat.le_of_eq hl, hm⟩
      show (⟨(List.replicate n.toNat l.toArray).foldl (· ++ ·) #[]⟩ : Str) = _
      rw [e]
      simp [S]
theorem mulOk_S {l : List Nat} {n : Int} (h0 : 0 ≤ n) (h1 : n ≤ 60) (hl : l.length ≤ 1000) : PySem.MulOk (S l) n := by
  refine ⟨?_, fun h2 _ => ?_, fun h2 _ => ?_⟩
  · rw [decide_eq_false (by omega), decide_eq_false (by omega)]; rfl
  · rw [S_len]
    intro h3
    have h5 : (l.length : Int) * n ≤ 1000 * 60 := Int.mul_le_mul (by omega) h1 h0 (by omega)
    have h6 : (l.length : Int) ≤ (2 ^ 63 - 1 : Int) / n := Int.le_ediv_of_mul_le (by omega) (by omega)
    omega
  · rw [S_len]
    refine PyProof.Rows.short24 ?_
    have : l.length * n.toNat ≤ 1000 * 60 := Nat.mul_le_mul hl (by omega)
    omega

def spText : Sp := fun vs H Q _ => ∃ (j a : Addr) (n : Nat) (gs : List Nat), vs = [.ref j, .ref a] ∧ JarAt H j n ∧ SgnsAt H a gs ∧ n + 100 < 1000000 ∧
  ∀ l H', Good l → JarAt H' j (n + 100) → Kp j H H' → Q (.str (S l)) H'
theorem SgnsAt.item {H : Hp} {a : Addr} {gs : List Nat} (h : SgnsAt H a gs) {r : Int} (h0 : 0 ≤ r) (h1 : r < 8) : ∃ c ∈ CH, atI ((gs.map sg).map V.str) r = some (.str (sg c)) := by
  have e : r.toNat < gs.length := by rw [h.len]; omega
  refine ⟨gs[r.toNat], h.ok _ (List.getElem_mem e), ?_⟩
  have z := atI_nat (xs := (gs.map sg).map V.str) (j := r.toNat) (v := .str (sg gs[r.toNat])) (by simp [e])
  have e2 : ((r.toNat : Nat) : Int) = r := by omega
  rw [e2] at z
  exact z
theorem SgnsAt.len' {H : Hp} {a : Addr} {gs : List Nat} (h : SgnsAt H a gs) : (((gs.map sg).map V.str).length : Int) = 8 := by
  rw [List.length_map, List.length_map, h.len]; rfl
theorem four_item {r : Int} (h0 : 0 ≤ r) (h1 : r < 4) : ∃ m : Int, atI [V.int 1, V.int 1, V.int 2, V.int 5] r = some (.int m) ∧ 0 ≤ m ∧ m ≤ 5 := by
  obtain rfl | rfl | rfl | rfl : r = 0 ∨ r = 1 ∨ r = 2 ∨ r = 3 := by omega
  · exact ⟨1, rfl, by decide, by decide⟩
  · exact ⟨1, rfl, by decide, by decide⟩
  · exact ⟨2, rfl, by decide, by decide⟩
  · exact ⟨5, rfl, by decide, by decide⟩
section
variable {P : Program} {w : World} {K : PySem.W.Frag} {mg : Str → Option Value} {base : Heap}
end
end Pd

set_option maxHeartbeats 4000000
namespace Pd
open PySem PySem.Spec PyProof.Rows L2 SX
def spDropped : Sp := fun vs H Q _ => ∃ (j a : Addr) (n : Nat) (gs : List Nat), vs = [.ref j, .ref a] ∧ JarAt H j n ∧ SgnsAt H a gs ∧ n + 40 < 1000000 ∧
  ∀ cs H', Stp.ok (.drop cs) → JarAt H' j (n + 40) → Kp j H H' → Q (.str (S cs)) H'
theorem three_item {r : Int} (h0 : 0 ≤ r) (h1 : r < 3) : ∃ m : Int, atI [V.int 0, V.int 1, V.int 9] r = some (.int m) ∧ 0 ≤ m ∧ m ≤ 9 := by
  obtain rfl | rfl | rfl : r = 0 ∨ r = 1 ∨ r = 2 := by omega
  · exact ⟨0, rfl, by decide, by decide⟩
  · exact ⟨1, rfl, by decide, by decide⟩
  · exact ⟨9, rfl, by decide, by decide⟩
/-- a step in the heap -/
def stpVals : Stp → List V
  | .low => [.str "lower"]
  | .swap a b => [.str "swap", .str (sg a), .str (sg b)]
  | .drop cs => [.str "drop", .str (S cs)]
  | .lead a => [.str "lead", .str (sg a)]
  | .once a => [.str "once", .str (sg a)]
  | .cut n => [.str "cut", .int (n : Nat)]
/-- a step of once: a tuple, or one whose object is known -/
def OnceAt (H : Hp) (p : Addr) (a : Str) : Prop := H p = Option.some (.tup [.str "once", .str a]) ∨ ∃ o, H p = Option.some (.frz o (.tup [.str "once", .str a]))
def StpAt (H : Hp) (p : Addr) : Stp → Prop
  | .swap a b => SwapAt H p (sg a) (sg b)
  | .once a => OnceAt H p (sg a)
  | st => H p = some (.tup (stpVals st))
theorem StpAt.seq {K : PySem.W.Frag} {H : Hp} {p : Addr} {st : Stp} (h : StpAt H p st) : SqT K H p (stpVals st) := by
  cases st with
  | swap a b => exact SwapAt.seq h
  | low => exact SqT.of h
  | drop _ => exact SqT.of h
  | lead _ => exact SqT.of h
  | once _ =>
    rcases h with h | ⟨o, h⟩
    · exact SqT.of h
    · exact .inl (.inr ⟨o, h⟩)
  | cut _ => exact SqT.of h
theorem StpAt.some {H : Hp} {p : Addr} {st : Stp} (h : StpAt H p st) : ∃ o, H p = some o ∧ ∀ xs, o ≠ .lst xs := by
  cases st with
  | swap a b =>
    obtain ⟨n, t0, t, u, e, _⟩ := h
    exact ⟨_, e, fun _ h => nomatch h⟩
  | low => exact ⟨_, h, fun _ h => nomatch h⟩
  | drop _ => exact ⟨_, h, fun _ h => nomatch h⟩
  | lead _ => exact ⟨_, h, fun _ h => nomatch h⟩
  | once _ =>
    rcases h with h | ⟨o, h⟩
    · exact ⟨_, h, fun _ h => nomatch h⟩
    · exact ⟨_, h, fun _ h => nomatch h⟩
  | cut _ => exact ⟨_, h, fun _ h => nomatch h⟩
/-- what stands at p is the same -/
theorem StpAt.same {H H' : Hp} {p : Addr} {st : Stp} (h : StpAt H p st) (e : ∀ o, H p = Option.some o → H' p = Option.some o) : StpAt H' p st := by
  cases st with
  | swap a b => exact SwapAt.same h fun o u x => e _ x
  | low => exact e _ h
  | drop _ => exact e _ h
  | lead _ => exact e _ h
  | once _ =>
    rcases h with h | ⟨o, h⟩
    · exact .inl (e _ h)
    · exact .inr ⟨o, e _ h⟩
  | cut _ => exact e _ h
theorem StpAt.kp {H H' : Hp} {j p : Addr} {st : Stp} {xs : List V} (h : StpAt H p st) (k : Kp j H H') (hj : H j = Option.some (.lst xs)) : StpAt H' p st := by
  refine h.same fun o x => k p o ?_ x
  rintro rfl
  obtain ⟨o', x', ne⟩ := h.some
  rw [hj] at x'; cases x'
  exact ne _ rfl
theorem StpAt.new {H : Hp} {l p : Addr} {st : Stp} {o : HO} (h : StpAt H p st) (hl : H l = none) : StpAt (L2.upd H l o) p st :=
  h.same fun o x => by rw [upd_ne (ne_of_none x hl)]; exact x
def spStep : Sp := fun vs H Q _ => ∃ (j a : Addr) (n : Nat) (gs : List Nat), vs = [.ref j, .ref a] ∧ JarAt H j n ∧ SgnsAt H a gs ∧ n + 50 < 1000000 ∧
  ∀ p st H', H p = none → st.ok → StpAt H' p st → JarAt H' j (n + 50) → Kp j H H' → Q (.ref p) H'
theorem Kp.none {j p : Addr} {H H' : Hp} (k : Kp j H H') (hp : H' p = none) (hj : ∃ xs, H j = some (.lst xs)) (hj' : ∃ xs, H' j = some (.lst xs)) : H p = none := by
  cases h : H p with
  | none => rfl
  | some o =>
    by_cases e : p = j
    · subst e
      obtain ⟨xs, h'⟩ := hj'
      rw [h'] at hp; cases hp
    · rw [k p o e h] at hp; cases hp
section
variable {P : Program} {w : World} {K : PySem.W.Frag} {mg : Str → Option Value} {base : Heap}
end
end Pd

set_option maxHeartbeats 4000000
namespace Pd
open PySem PySem.Spec PyProof.Rows L2 SX
section
variable {P : Program} {w : World} {K : PySem.W.Frag} {mg : Str → Option Value} {base : Heap}
end
end Pd

set_option maxHeartbeats 4000000
namespace Pd
open PySem PySem.Spec PyProof.Rows L2 SX
/-! ### comprehensions over a text that give signs -/
def Ext (H H' : Hp) : Prop := ∀ b o, H b = some o → H' b = some o
theorem Ext.refl {H : Hp} : Ext H H := fun _ _ h => h
theorem Ext.trans {H H' H'' : Hp} (a : Ext H H') (b : Ext H' H'') : Ext H H'' := fun c o h => b c o (a c o h)
theorem Ext.new {H H' : Hp} {D : Addr} {o : HO} (a : Ext H H') (h : H D = none) : Ext H (upd H' D o) := fun b u e => by
  rw [upd_ne (ne_of_none e h)]; exact a b u e
theorem Ext.kp {H H' : Hp} {j : Addr} (a : Ext H H') : Kp j H H' := fun b o _ h => a b o h
theorem StpAt.ext {H H' : Hp} {p : Addr} {st : Stp} (h : StpAt H p st) (k : Ext H H') : StpAt H' p st := h.same fun o x => k p o x
theorem lc_text {l : List Nat} {g : TG} {tt : TT} {te : TE} {vs : List Nat} {σ : L2.St} {H1 : Hp} {D : Addr} {Qd : Hp → Prop} (f : Nat → Option Nat) (hl : l.length ≤ 1000) (hD : H1 D = none)
    (hs : ∀ c H acc (Nx : Hp → Prop), c ∈ l → Ext H1 H → H D = some (.lst acc) → acc.length < sizeLine →
      (∀ H', H' D = some (.lst (acc ++ ((f c).toList.map sg).map V.str)) → Ext H1 H' → Nx H') →
      g (.str (sg c)) (wipe σ vs) H fun σ2 H2 => wipe σ2 vs = wipe σ vs ∧ tt σ2 H2 fun b H3 =>
        if b = true then te σ2 H3 fun y H4 => ∃ acc', H4 D = some (.lst acc') ∧ acc'.length < sizeLine ∧ Nx (upd H4 D (.lst (acc' ++ [y]))) else Nx H3)
    (hd : ∀ H, H D = some (.lst (((l.filterMap f).map sg).map V.str)) → Ext H1 H → Qd H) :
    ∃ W : Nat → Nat → Hp → Prop, (∃ m, W 0 m (upd H1 D (.lst []))) ∧ ∀ i m H, W i m H →
      ((Its (S l)).stop i H ∧ Qd H) ∨ ((Its (S l)).go i H ∧ ∃ Nx : Hp → Prop, (∀ H', Nx H' → ∃ m', m' < m ∧ W (i + 1) m' H') ∧ ∀ x H', (Its (S l)).yld i H x H' → g x (wipe σ vs) H' fun σ2 H2 => wipe σ2 vs = wipe σ vs ∧ tt σ2 H2 fun b H3 =>
        if b = true then te σ2 H3 fun y H4 => ∃ acc, H4 D = some (.lst acc) ∧ acc.length < sizeLine ∧ Nx (upd H4 D (.lst (acc ++ [y]))) else Nx H3) := by
  have hsz : (S l).cps.size = l.length := by simp [S]
  have key := lc_it (g := g) (tt := tt) (te := te) (vs := vs) (σ := σ) (H1 := H1) (D := D) (Qd := Qd) (walk_str (z := S l))
    (fun i H => H D = some (.lst ((((l.take i).filterMap f).map sg).map V.str)) ∧ Ext H1 H) ⟨by rw [List.take_zero]; exact upd_same, Ext.refl.new hD⟩ (fun _ _ _ _ => trivial) ?_ ?_
  · exact key
  · rintro i x H H' hi ⟨h1, h2⟩ ⟨rfl, c, hc, rfl⟩
    have hc' : l[i]? = some c := by simpa [S] using hc
    have hil : i < l.length := (List.getElem?_eq_some_iff.mp hc').1
    have hb : ∀ k, (((l.take k).filterMap f).map sg).length ≤ 1000 := fun k => by
      rw [List.length_map]
      exact Nat.le_trans (List.length_filterMap_le _ _) (Nat.le_trans (List.length_take_le' _ _) hl)
    refine hs c H' _ _ (List.mem_of_getElem? hc') h2 h1 (by rw [List.length_map, sizeLine_eq]; have := hb i; omega) fun H'' e1 e2 => ⟨?_, e2⟩
    rw [e1, List.take_succ, hc', List.filterMap_append, List.map_append, List.map_append]
    congr 4
  · rintro H ⟨h1, h2⟩
    rw [hsz, List.take_length] at h1
    exact hd H h1 h2
theorem joinL_sg : ∀ m : List Nat, TL.joinL [] (m.map fun c => [c]) = m
  | [] => rfl
  | [c] => rfl
  | c :: d :: r => by
    have ih := joinL_sg (d :: r)
    show [c] ++ ([] ++ TL.joinL [] ((d :: r).map fun c => [c])) = c :: d :: r
    rw [ih]
    rfl
theorem join_sg (m : List Nat) : Txt.join "" (m.map sg) = S m := by
  have e : m.map sg = (m.map fun c => [c]).map S := by rw [List.map_map]; rfl
  have e2 : ("" : Str) = S [] := rfl
  rw [e, e2, join_S, joinL_sg]
theorem sum_sg (m : List Nat) : ((m.map sg).map (·.length)).sum = m.length := by
  induction m with
  | nil => rfl
  | cons c m ih =>
    rw [List.map_cons, List.map_cons, List.sum_cons, ih, List.length_cons]
    show 1 + m.length = m.length + 1
    omega
/-- what join asks of such a list -/
theorem join_ask {K : PySem.W.Frag} {H : Hp} {p : Addr} {m : List Nat} {Q : VK} (h : H p = some (.lst ((m.map sg).map V.str))) (hl : m.length ≤ 1000) (q : Q (.str (S m)) H) :
    ∃ a p', ∃ ys : List Str, V.str "" = .str a ∧ [V.ref p] = [.ref p'] ∧ (SqL K H p' (ys.map V.str) ∨ SqT K H p' (ys.map V.str)) ∧
      (ys.map (·.length)).sum + ys.length * a.length ≤ 16777216 ∧ Q (.str (Txt.join a ys)) H := by
  refine ⟨_, p, m.map sg, rfl, rfl, .inl (SqL.of h), ?_, by rw [join_sg]; exact q⟩
  rw [sum_sg, List.length_map]
  show m.length + m.length * 0 ≤ 16777216
  omega
/-! ### the letters' places -/
theorem ABC_S : ("ABCDEFGHIJKLMNOPQRSTUVWXYZ" : Str) = S ((CH.drop 26).take 26) := by decide +kernel
theorem find_CH : ∀ c ∈ CH, Txt.find "ABCDEFGHIJKLMNOPQRSTUVWXYZ" (sg c) = if 65 ≤ c ∧ c ≤ 90 then ((c : Int) - 65) else -1 := by decide +kernel
theorem abc_at : ∀ c ∈ CH, 65 ≤ c ∧ c ≤ 90 → (CH.take 26)[c - 65]? = some (c + 32) := by decide +kernel
def spSmall : Sp := fun vs H Q _ => ∃ c, vs = [.str (sg c)] ∧ c ∈ CH ∧ Q (.str (sg (lowC c))) H
section
variable {P : Program} {w : World} {K : PySem.W.Frag} {mg : Str → Option Value} {base : Heap}
end
end Pd

set_option maxHeartbeats 4000000
namespace Pd
open PySem PySem.Spec PyProof.Rows L2
/-! ### C(e, ..) where it may raise, in a try -/
def tMakeS (C : Addr) (sp : Sp) (dvs : List V) (E : L2.St → XK) (t : TA) : TE := fun σ H Q => t σ H fun vs H1 => ∀ x dx, H1 x = none → H1 dx = none → dx ≠ x → sp (.ref x :: (vs ++ dvs)) (upd (upd H1 dx (.own x)) x (.ins C dx [])) (fun v H2 => v = .non ∧ Q (.ref x) H2) (E σ)
section
variable {X : Cx} {CX : CXT} {k : Nat} {f C : Addr} {fd : FuncData} {ps : List Str} {sp : Sp} {E : L2.St → XK} {x : Str} {p pos : Pos} {e : Expr} {es : List Expr} {t : TA} {dvs : List V} {ds : List Value}
theorem pe_makeS (M : Mk X.K C f) (F : FnOk X.prog X.w X.K X.mg X.base CX k f fd ps sp) (hr : Room (k + 1) X.A) (hg : Gl X x) (hm : X.mg x = some (.ref C)) (hb : Binds X.K fd ps ds) (hd : Vals dvs ds) (hx : ∀ σ, PassesAt CX X σ (E σ))
    (ha : PA X (e :: es) t) (hdb : (x == ("__debug__" : Str)) = false := by decide) (he : starEach (e :: es) X.env = (false, eval e X.env) :: starEach es X.env := by rfl) (hpl : (backTo pos (starEach es X.env)).any (·.1) = false := by rfl) :
    PE X (.Call (.Name x p) (e :: es) [] pos) (tMakeS C sp dvs E t) := by
  refine ⟨fun pins s σ H Q I h => ?_⟩
  refine wpAny_Call_Name_kw (ld_glob I hg hm ?_ hdb)
  refine PySem.W.callWith_K (h₀ := X.base) I.ok.mod.kin M.kp (thn (ha.run pos pins s σ H _ I h) fun us s1 ⟨vs, H1, I1, r, q⟩ => ⟨I1.kIn, ?_⟩) he hpl
  show wpAny (model X.prog X.w) X.A (call (.ref C) us) (EP X pins σ Q) X.xe s1
  have hq := q (s1.heap.objs.size + 1) s1.heap.objs.size (I1.hok.fresh (Nat.le_succ _)) (I1.hok.fresh (Nat.le_refl _)) (Nat.ne_of_lt (Nat.lt_succ_self _))
  have I2 := Inv.made (C := C) I1
  have r2 : Vals (V.ref (s1.heap.objs.size + 1) :: (vs ++ dvs)) (Value.ref (s1.heap.objs.size + 1) :: (us ++ ds)) := .cons rfl (r.append hd)
  have hl : (Value.ref (s1.heap.objs.size + 1) :: us ++ ds).length = ps.length := by
    have e := r2.length
    rw [F.len _ _ _ _ hq] at e
    exact e.symm
  refine wpAny_call (make_map (f := f) I1.kIn M.makes M.init (beq_iff_eq.mp M.fn) (codeAny_mono (F.run _ X.stack _ _ ⟨Value.ref (s1.heap.objs.size + 1) :: us, []⟩ (Value.ref (s1.heap.objs.size + 1) :: (us ++ ds)) _ _ (E σ) (hr.make C us [])
    (I2.env0.make C us []) (hb _ (Value.ref (s1.heap.objs.size + 1) :: us) I2.kIn hl) r2 hq) fun r s' hq' => ?_))
  cases r with
  | error e => exact hx σ pins _ _ e s' I2 hq'
  | ok fl =>
    cases fl with
    | ret u =>
      obtain ⟨v, H', I3, rv, ev, q3⟩ := I2.after hq'
      subst ev
      exact ⟨rv, ⟨V.ref (s1.heap.objs.size + 1), H', I3, rfl, q3⟩⟩
    | next => exact False.elim hq'
    | brk => exact False.elim hq'
    | cont => exact False.elim hq'
end
end Pd

set_option maxHeartbeats 4000000
/-! ### an own error made by keywords alone -/
namespace PySem
namespace HandSPX
open Builtin Builtin.ObjectAttr
section
variable {A : Around} {h : Heap} {g : Array GenState} {d : Drawn} {t : Nat} {os : OsState} {nm q : Str} {C N : Addr} {bs bm bmB : List Value} {hdct : Bool} {sn : List Str} {sub : List Value} {ab : Bool} {col : Option Bool} {dd : Option Addr} {k0 k1 k2 k3 k5 : Option Value} {B newId initId : String} {kws : List (Str × Value)}
theorem kw_newcheck {M : Model} {E : Value → Shared → Prop} {Q : Unit → Shared → Prop} (F : ExcBaseFacts B newId initId bmB) (hT : ∀ X : String, bm.contains (.type X) = bmB.contains (.type X)) (hC : h.get? C = some (excClassObj nm q C N bs bm hdct sn sub ab col dd k0 k1 k2 k3 k5 newId)) (hq : Q () ⟨h, g, d, t, os⟩) :
    wpAny M A (checkBuiltinCall newId ⟨[.ref C], kws⟩) Q E ⟨h, g, d, t, os⟩ := by
  have hB : (Value.ref C :: bm).contains (.type B) = true := by rw [List.contains_cons, hT, F.hasB, Bool.or_true]
  have hS := F.noStar
  simp only [checkBuiltinCall, F.newKind, F.newSplit, F.newRow]
  repeat (first | refine wpAny_madeBy_exc hC ?_ | refine wpAny_staticBase_exc hC ?_ | (refine wpAny_isSubtype_exc hC ?_; rw [hB]) | refine wpAny_loadPart_at hC ?_ | simp only [bne_self_eq_false, Bool.false_eq_true, if_false] | wp_step)
  all_goals exact hq
end
section
variable {prog : Program} {w : World} {A : Around} {R : Result → Shared → Prop} {h : Heap} {g : Array GenState} {d : Drawn} {t : Nat} {os : OsState} {nm q : Str} {C N : Addr} {bs bm bmB : List Value} {hdct : Bool} {sn : List Str} {sub : List Value} {ab : Bool} {col : Option Bool} {dd : Option Addr} {k0 k1 k2 k3 k5 : Option Value} {B newId initId : String} {kws : List (Str × Value)}
/-- the new error: its tuple of no arguments before it -/
abbrev kwHp (h : Heap) (C : Addr) : Heap := (h.push (W.kdv_tup [])).push (excO C h.objs.size)
theorem kw_new (F : ExcBaseFacts B newId initId bmB) (hT : ∀ X : String, bm.contains (.type X) = bmB.contains (.type X)) (hC : h.get? C = some (excClassObj nm q C N bs bm hdct sn sub ab col dd k0 k1 k2 k3 k5 newId))
    (hq : R (.ok (.ret (.ref (h.objs.size + 1)))) ⟨kwHp h C, g, d, t, os⟩) : codeAny (model prog w) A (.builtin newId ⟨[.ref C], kws⟩) R ⟨h, g, d, t, os⟩ := by
  have e0 := F.ends
  have hB : (Value.ref C :: bm).contains (.type B) = true := by rw [List.contains_cons, hT, F.hasB, Bool.or_true]
  have h1 : (Value.ref C :: bm).contains (.type "AttributeError") = false := by rw [List.contains_cons, hT, F.noAttr]; rfl
  have h2 : (Value.ref C :: bm).contains (.type "NameError") = false := by rw [List.contains_cons, hT, F.noName]; rfl
  refine codeAny_builtinAt F.entry ?_
  unfold Builtin.«BaseException.__new__»
  refine wpAt_bind (show wpAt _ _ _ (stack >>= _) _ _ _ from wpAt_bind (wpAt_stack fun p below => wpAt_of_wpAny ?_))
  wp_walk
  refine wpAt_of_wpAny ?_
  rw [F.owner]
  repeat (first | (with_reducible refine wpAny_isSubtype_exc hC ?_; first | rw [hB] | rw [h1] | rw [h2]) | with_reducible refine wpAny_loadPart_at hC ?_ | with_reducible refine wpAny_madeHere_exc F.canon hC ?_ | wp_step)
  show R _ _
  rw [Heap.size_push]
  exact hq
theorem kw_typecall {Q : Fin → Shared → Prop} {E : Value → Shared → Prop} {fI : Addr} (F : ExcBaseFacts B newId initId bmB) (hT : ∀ X : String, bm.contains (.type X) = bmB.contains (.type X)) (hC : h.get? C = some (excClassObj nm q C N bs bm hdct sn sub ab col dd k0 k1 k2 k3 k5 newId))
    (hi : W.Looks (model prog w) h (typeLookup (.ref C) "__init__") (some (.ref fI))) (hb : ∀ self, W.Looks (model prog w) h (bindSpecial (.ref fI) self) (.ref fI, [self]))
    (hq : codeAny (model prog w) A (.call (.ref fI) ⟨[.ref (h.objs.size + 1)], kws⟩) (fun r s' => match r with | .error e => E e s' | .ok (.ret v) => v = .none ∧ Q (.done (.ret (.ref (h.objs.size + 1)))) s' | .ok _ => False) ⟨kwHp h C, g, d, t, os⟩) :
    wpAny (model prog w) A (Builtin.«type.__call__» ⟨[.ref C], kws⟩) Q E ⟨h, g, d, t, os⟩ := by
  have k : ∀ b o, h.get? b = some o → (kwHp h C).get? b = some o := fun b o e => Heap.get?_push_of_some _ (Heap.get?_push_of_some _ e)
  have hN : (kwHp h C).get? (h.objs.size + 1) = some (excO C h.objs.size) := by heap_get
  have hCC : (Value.ref C :: bm).contains (.ref C) = true := by simp
  repeat (first | with_reducible refine wpAny_madeBy_exc hC ?_ | with_reducible refine wpAny_loadPart_at hC ?_ | wp_step)
  refine codeAny_call_builtin_code (Code.quiet_builtin _ F.quiet) (kw_newcheck F hT hC (kw_new F hT hC ?_))
  show wpAny _ _ _ _ _ _
  unfold isInstance
  repeat (first | with_reducible refine wpAny_loadPart_at hN ?_ | (with_reducible refine wpAny_isSubtype_exc (k _ _ hC) ?_; rw [hCC]) | wp_step)
  show wpAny _ _ (typeLookup (.ref C) _) _ _ _
  refine (hi.keeps k).at (wpAny_holding (wpAny_bind (((hb (.ref (h.objs.size + 1))).keeps k).at ?_)))
  refine wpAny_bind (wpAny_call (codeAny_mono hq fun r s' z => ?_))
  rcases r with e | (_ | _ | _ | v) <;> first | exact z | exact z.elim | skip
  obtain ⟨rfl, z⟩ := z
  first
    | exact wpAny_pure (wpAny_pure z)
    | (wp_walk; exact z)
theorem kw_tccheck {M : Model} {Q : Unit → Shared → Prop} {E : Value → Shared → Prop} (hC : h.get? C = some (excClassObj nm q C N bs bm hdct sn sub ab col dd k0 k1 k2 k3 k5 newId)) (hq : Q () ⟨h, g, d, t, os⟩) : wpAny M A (checkBuiltinCall "type.__call__" ⟨[.ref C], kws⟩) Q E ⟨h, g, d, t, os⟩ := by
  have hY : (⟨h, g, d, t, os⟩ : Shared).TypeIs (.ref C) "type" := ⟨_, hC, rfl⟩
  have z := tc_sub
  simp only [checkBuiltinCall, tc_kind, tc_split]
  repeat (any_goals (first | assumption | with_reducible refine wpAny_map ?_ | with_reducible refine wpAny_onRaise ?_ | with_reducible refine wpAny_loadPart_at hC ?_ | wp_step))
theorem kw_own {fI : Addr} (F : ExcBaseFacts B newId initId bmB) (hT : ∀ X : String, bm.contains (.type X) = bmB.contains (.type X)) (hC : h.get? C = some (excClassObj nm q C N bs bm hdct sn sub ab col dd k0 k1 k2 k3 k5 newId))
    (hi : W.Looks (model prog w) h (typeLookup (.ref C) "__init__") (some (.ref fI))) (hb : ∀ self, W.Looks (model prog w) h (bindSpecial (.ref fI) self) (.ref fI, [self]))
    (hq : codeAny (model prog w) (A.under (.builtin "type.__call__" ⟨[.ref C], kws⟩)) (.call (.ref fI) ⟨[.ref (h.objs.size + 1)], kws⟩) (W.InitBack (h.objs.size + 1) R) ⟨kwHp h C, g, d, t, os⟩) : codeAny (model prog w) A (.call (.ref C) ⟨[], kws⟩) R ⟨h, g, d, t, os⟩ := by
  have f1 := tc_lookup
  have f2 := tc_bind (.ref C)
  have hY : (⟨h, g, d, t, os⟩ : Shared).TypeIs (.ref C) "type" := ⟨_, hC, rfl⟩
  refine codeAny_of_tree (show wpAny _ _ (callAny (.ref C) _) _ _ _ from ?_)
  repeat (any_goals (first | assumption | with_reducible refine wpAny_loadPart_at hC ?_ | wp_step))
  refine ⟨rfl, codeAny_call_builtin_at (Code.quiet_builtin _ (by decide +kernel)) entry_typeCall (kw_tccheck hC (kw_typecall F hT hC hi hb (codeAny_mono hq fun r s' z => ?_)))⟩
  rcases r with e | (_ | _ | _ | v) <;> exact z
end
end HandSPX
end PySem

set_option maxHeartbeats 4000000
namespace Pd
open PySem PySem.Spec PyProof.Rows L2
/-! ### own errors as values -/
/-- C(e, ..), or C(k = v, ..), C's own __init__ keeping sp: a new error that is kept -/
def rMkV (C : Addr) (sp : Sp) (gs : List V) (H1 : Hp) (Q : VK) : Prop := ∀ a, H1 a = none → sp (.ref a :: gs) (upd H1 a (exo a C none)) (fun v H2 => v = .non ∧ Q (.ref a) H2) fun _ _ _ => False
def tMkV (C : Addr) (sp : Sp) (t : TA) : TE := fun σ H Q => t σ H fun vs H1 => vs.length ≤ 1000 ∧ rMkV C sp vs H1 Q
def tMkVK (C : Addr) (sp : Sp) (m : Nat) (tk : TA) : TE := fun σ H Q => tk σ H fun zs H1 => zs.length = m ∧ rMkV C sp zs H1 Q
section
variable {X : Cx} {CX : CXT} {x : Str} {C fI : Addr} {k : Nat} {fd : FuncData} {ps ks : List Str} {sp : Sp} {e : Expr} {es : List Expr} {ta tk : TA} {p pos : Pos} {kws : List Keyword}
theorem pe_mkV (T : OexC X.K C) (iC : PySem.W.findIn X.K (.ref C) "__init__" = some (some (.ref fI))) (tI : PySem.W.typeIn X.K (.ref fI) = some (.type "function")) (F : FnOk X.prog X.w X.K X.mg X.base CX k fI fd ps sp) (hr : Room (k + 1) X.A) (hb : Binds X.K fd ps []) (hx : Passes CX X fun _ _ _ => False)
    (hg : Gl X x) (hm : X.mg x = some (.ref C)) (ha : PA X (e :: es) ta) (hdb : (x == ("__debug__" : Str)) = false := by decide) (he : starEach (e :: es) X.env = (false, eval e X.env) :: starEach es X.env := by rfl) (hpl : (backTo pos (starEach es X.env)).any (·.1) = false := by rfl) :
    PE X (.Call (.Name x p) (e :: es) [] pos) (tMkV C sp ta) := by
  refine ⟨fun pins s σ H Q I h => wpAny_Call_Name_kw (ld_glob I hg hm ?_ hdb)⟩
  refine PySem.W.callWith_K (h₀ := X.base) I.ok.mod.kin T.kC (thn (ha.run pos pins s σ H _ I h) fun us s1 ⟨vs, H1, I1, r1, hz, q1⟩ => ⟨I1.kIn, show wpAny _ _ (call (.ref C) us) _ _ _ from ?_⟩) he hpl
  obtain ⟨nm, q, N, bs, bm, sn, sub, ab, col, dd, k0, k1, k2, k3, k5, hC, hbm⟩ := T.cls
  obtain ⟨hp, g, dr, tk, os⟩ := s1
  have z1 : hp.objs.size ≤ hp.objs.size + 1 := Nat.le_succ _
  have z2 : us.length ≤ sizeLine := by rw [← Paired.length r1, sizeLine_eq]; omega
  have hq := q1 (hp.objs.size + 1) (I1.hok.fresh z1)
  have J := I1.laid (t' := tk) (a := hp.objs.size + 1) (o := exo (hp.objs.size + 1) C none) (h' := (hp.push (PySem.W.kdv_tup us)).push (PySem.HandSPX.excO C hp.objs.size)) (fun b o z => Heap.get?_push_of_some _ (Heap.get?_push_of_some _ z)) z1 (exo_ok (by heap_get))
  have rr : Vals (V.ref (hp.objs.size + 1) :: vs) (Value.ref (hp.objs.size + 1) :: us) := .cons rfl r1
  have hl : (Value.ref (hp.objs.size + 1) :: us).length = ps.length := by rw [← rr.length]; exact (F.len _ _ _ _ hq)
  have bd := hb _ (Value.ref (hp.objs.size + 1) :: us) J.kIn (by simpa using hl)
  refine wpAny_call (PySem.HandSPX.call_own PySem.F.excBase_ValueError (fun Y => PySem.HandSPX.refsVE_contains Y bm hbm) (I1.kIn _ _ hC) (PySem.W.looks_findIn I1.kIn iC) (fun self => PySem.W.bind_fn I1.kIn self tI) z2
    (codeAny_mono (F.run _ X.stack _ _ ⟨Value.ref (hp.objs.size + 1) :: us, []⟩ (Value.ref (hp.objs.size + 1) :: us) _ _ (fun _ _ _ => False) (hr.make C us []) (J.env0.make C us []) (by simpa using bd) rr hq) fun r s' hq' => ?_))
  rcases r with er | fl
  · exact hx pins σ _ _ er s' J hq'
  · cases fl with
    | ret u =>
      obtain ⟨v, H', I3, rv, rfl, q3⟩ := J.after hq'
      exact ⟨rv, V.ref (hp.objs.size + 1), H', I3, rfl, q3⟩
    | next => exact hq'.elim
    | brk => exact hq'.elim
    | cont => exact hq'.elim
theorem pe_mkVK {g : List Value → List Value → List Value} {gV : List V → List V → List V} (T : OexC X.K C) (iC : PySem.W.findIn X.K (.ref C) "__init__" = some (some (.ref fI))) (tI : PySem.W.typeIn X.K (.ref fI) = some (.type "function")) (F : FnOk X.prog X.w X.K X.mg X.base CX k fI fd ps sp) (hr : Room (k + 1) X.A)
    (hb : KBn X.K fd ps 1 ks g gV) (hgV : ∀ x zs, gV [x] zs = x :: zs) (hx : Passes CX X fun _ _ _ => False) (hg : Gl X x) (hm : X.mg x = some (.ref C)) (hkw : PK X kws tk) (hall : (backToKw pos (keywordEach kws X.env)).all (·.1.isSome) = true := by rfl) (hks : (backToKw pos (keywordEach kws X.env)).filterMap (·.1) = ks := by rfl)
    (hdb : (x == ("__debug__" : Str)) = false := by decide) (hpl : ((backTo pos (starEach [] X.env)).any (·.1) || (backToKw pos (keywordEach kws X.env)).any (·.1.isNone)) = false := by rfl) :
    PE X (.Call (.Name x p) [] kws pos) (tMkVK C sp ks.length tk) := by
  refine ⟨fun pins s σ H Q I h => wpAny_Call_Name_kw (ld_glob I hg hm ?_ hdb)⟩
  refine PySem.W.callWith_KW0 (h₀ := X.base) I.ok.mod.kin T.kC hall (thn (hkw.run pos pins s σ H _ I h) fun ws s1 ⟨zs, H1, I1, rz, l1, q1⟩ => ⟨I1.kIn, ?_⟩) hpl
  rw [hks]
  obtain ⟨nm, q, N, bs, bm, sn, sub, ab, col, dd, k0, k1, k2, k3, k5, hC, hbm⟩ := T.cls
  obtain ⟨hp, gn, dr, tk, os⟩ := s1
  have z1 : hp.objs.size ≤ hp.objs.size + 1 := Nat.le_succ _
  have hq := q1 (hp.objs.size + 1) (I1.hok.fresh z1)
  have J := I1.laid (t' := tk) (a := hp.objs.size + 1) (o := exo (hp.objs.size + 1) C none) (h' := PySem.HandSPX.kwHp hp C) (fun b o z => Heap.get?_push_of_some _ (Heap.get?_push_of_some _ z)) z1 (exo_ok (by heap_get))
  have r1 : Vals [V.ref (hp.objs.size + 1)] [Value.ref (hp.objs.size + 1)] := .cons rfl .nil
  have rr := hb.rel r1 rz
  rw [hgV] at rr
  refine wpAny_call (PySem.HandSPX.kw_own PySem.F.excBase_ValueError (fun Y => PySem.HandSPX.refsVE_contains Y bm hbm) (I1.kIn _ _ hC) (PySem.W.looks_findIn I1.kIn iC) (fun self => PySem.W.bind_fn I1.kIn self tI)
    (codeAny_mono (F.run _ X.stack _ _ ⟨[Value.ref (hp.objs.size + 1)], ks.zip ws⟩ (g [Value.ref (hp.objs.size + 1)] ws) _ _ (fun _ _ _ => False) (hr.make C [] (ks.zip ws)) (J.env0.make C [] (ks.zip ws)) (hb.to _ [_] ws J.kIn rfl (rz.length.symm.trans l1)) rr hq) fun r s' hq' => ?_))
  rcases r with er | fl
  · exact hx pins σ _ _ er s' J hq'
  · cases fl with
    | ret u =>
      obtain ⟨v, H', I3, rv, rfl, q3⟩ := J.after hq'
      exact ⟨rv, V.ref (hp.objs.size + 1), H', I3, rfl, q3⟩
    | next => exact hq'.elim
    | brk => exact hq'.elim
    | cont => exact hq'.elim
end
/-- at a: an error of the class C, without or with a dict -/
def ErrAt (H : Hp) (a C : Addr) : Prop := H a = some (ExO (.ref C) a) ∨ ∃ (d : Addr) (fs : List (Str × V)), H a = some (exo a C (some d)) ∧ H d = some (exd d fs)
theorem errAt_inst {X : Cx} {a C : Addr} {pins : List (Addr × Obj)} {σ : L2.St} {H : Hp} {s : Shared} (I : Inv X pins σ H s) (h : ErrAt H a C) : ∃ oe od, PySem.W.InstAt s.heap a oe C od := by
  rcases h with h | ⟨d, fs, h, hd⟩
  · obtain ⟨⟨oe, vs, g, ⟨z1, z2⟩, hv, _⟩, _⟩ := (show ObjOk X.prog X.w H s.heap a (ExO (.ref C) a) from I.hok a _ h)
    exact ⟨oe, none, g, z1, by unfold PySem.W.notCls; rw [hv] <;> rfl, by rw [z2]; trivial⟩
  · obtain ⟨t1, g⟩ := exo_at I.hok h
    obtain ⟨mA, ⟨o, es, ep, ho, hr⟩, _⟩ := exd_at I.hok hd
    exact ⟨_, some o, g, rfl, rfl, ho⟩
/-- isinstance(e, c), e such an error -/
def rIsV (K : PySem.W.Frag) : List V → Hp → VK → Prop := fun xs H Q => ∃ (a D : Addr) (c : V) (cv : Value) (b : Bool), xs = [.ref a, c] ∧ ErrAt H a D ∧ ExcC K D ∧ (∀ u, RelV c u → u = cv) ∧ PySem.W.kitOne K (.ref D) cv = some b ∧ Q (.bl b) H
theorem call_isV {X : Cx} : CallR X (.builtin "isinstance") (rIsV X.K) := by
  intro pins s σ H xs us Q I r h
  obtain ⟨a, D, c, cv, b, rfl, ha, C, hcv, e, q⟩ := h
  obtain ⟨u1, u2, rfl, r1, r2⟩ := vals2 r
  cases (show u1 = Value.ref a from r1)
  obtain rfl := hcv _ r2
  obtain ⟨oe, od, J⟩ := errAt_inst I ha
  have cl : (PySem.W.clsIn X.K D).isSome = true := by
    obtain ⟨cd, hc, _⟩ := PySem.W.any_some C.hd
    rw [hc]; rfl
  exact PySem.W.kia_one (PySem.W.kitx_exc cl C.hg C.hk C.hs C.ha C.hn C.ht C.hm) I.kIn J e (fun z => nomatch z) fun tk => ⟨.bl b, H, I.kept (t' := tk) fun _ _ z => z, rfl, q⟩
/-- e.n, e an error with a dict -/
def tFldV (K : PySem.W.Frag) (n : Str) (te : TE) : TE := fun σ H Q => te σ H fun x H1 => ∃ (a C d : Addr) (fs : List (Str × V)) (v : V), x = .ref a ∧ H1 a = some (exo a C (some d)) ∧ H1 d = some (exd d fs) ∧ fs.lookup n = some v ∧ XfC K C ∧ PySem.W.findIn K (.ref C) n = some none ∧ Q v H1
theorem pe_fldV {X : Cx} {e : Expr} {te : TE} {pos : Pos} {n : Str} (he : PE X e te) (hb : attributeBase e n X.env (eval e X.env) = eval e X.env := by rfl) : PE X (.Attribute e n pos) (tFldV X.K n te) := by
  refine ⟨fun pins s σ H Q I h => attr_of hb (thn (he.run pins s σ H _ I h) ?_)⟩
  rintro u s1 ⟨x, H1, I1, rx, a, C, d, fs, v, rfl, ha, hd, l, T, hno, q⟩
  obtain rfl : u = Value.ref a := rx
  obtain ⟨t1, g⟩ := exo_at I1.hok ha
  obtain ⟨mA, hns, hr⟩ := exd_at I1.hok hd
  obtain ⟨od, ho, hl⟩ := lookIn_ns hns
  obtain ⟨u, hu, ru⟩ := RelO.some_of (v := v) (o := mA n) (by rw [← l]; exact hr n)
  have J : PySem.W.InstAt s1.heap a _ C (some od) := ⟨g, rfl, rfl, ho⟩
  exact HandSPX.exc_get I1.kIn J T.ga T.gg T.exC (PySem.W.findObj_own T.hdC hno rfl (by rw [hl, hu])) (handed_of ru) ⟨v, H1, I1.tok _, ru, q⟩
end Pd

set_option maxHeartbeats 4000000
namespace Pd
open PySem PySem.Spec PyProof.Rows L2 SX PySem.OEX
/-- an own error's __init__: the new error has the field n -/
def spErI (C : Addr) (n : Str) : Sp := fun vs H Q _ => ∃ (a : Addr) (y : V), vs = [.ref a, y] ∧ H a = some (exo a C none) ∧
  ∀ d, H d = none → d ≠ a → Q .non (upd (upd H d (exd d [(n, y)])) a (exo a C (some d)))
/-- what such a class and its base D say -/
structure ErB (K : PySem.W.Frag) (mg : Str → Option Value) (C D : Addr) (n : Str) : Prop where
  o : OexC K C
  no : PySem.W.findIn K (.ref C) n = some none
  g : mg "PlainError" = some (.ref D)
  rg : PySem.W.specialIn K (.ref D) "__getattribute__" = some (some (.builtin "type.__getattribute__"))
  rd : PySem.W.readsIn K D (.type "type") = true
  vV : PySem.W.findCls K (.ref D) (.type "type") "__init__" = some (.val (.builtin "ValueError.__init__"))
section
variable {P : Program} {w : World} {K : PySem.W.Frag} {mg : Str → Option Value} {base : Heap}
theorem ok_nostep {f C D : Addr} {fd : FuncData} (F : Fun K "__init__" "NoStep.__init__" sNostepInit f fd) (Z : ErB K mg C D "index") : FnOk P w K mg base CX0 1 f fd ["self", "index"] (spErI C "index") := by
  refine F.ok scNostepInit (fun vs H Q E h => ?_) (fun cdv A outer s H vs Q E hr h => ?_)
  · obtain ⟨a, y, rfl, _⟩ := h
    rfl
  · obtain ⟨a, y, rfl, e, q⟩ := h
    refine ⟨_, pss_cons (ps_expr (pe_oeinit (x := "PlainError") rfl Z.g Z.rg Z.rd Z.vV (pa_cons (pv 0) (pa_cons pe_str pa_nil))))
      (pss_one (ps_ost (pv 0) (pv 1))), ?_⟩
    refine ⟨_, rfl, a, C, _, rfl, by show 1 ≤ 1000; decide, Z.o, e, ?_⟩
    exact ⟨_, rfl, _, rfl, a, C, rfl, Z.o, Z.no, .inl ⟨e, fun dx hd n => q dx hd n⟩⟩
theorem ok_nodeed {f C D : Addr} {fd : FuncData} (F : Fun K "__init__" "NoDeed.__init__" sNodeedInit f fd) (Z : ErB K mg C D "index") : FnOk P w K mg base CX0 1 f fd ["self", "index"] (spErI C "index") := by
  refine F.ok scNodeedInit (fun vs H Q E h => ?_) (fun cdv A outer s H vs Q E hr h => ?_)
  · obtain ⟨a, y, rfl, _⟩ := h
    rfl
  · obtain ⟨a, y, rfl, e, q⟩ := h
    refine ⟨_, pss_cons (ps_expr (pe_oeinit (x := "PlainError") rfl Z.g Z.rg Z.rd Z.vV (pa_cons (pv 0) (pa_cons pe_str pa_nil))))
      (pss_one (ps_ost (pv 0) (pv 1))), ?_⟩
    refine ⟨_, rfl, a, C, _, rfl, by show 1 ≤ 1000; decide, Z.o, e, ?_⟩
    exact ⟨_, rfl, _, rfl, a, C, rfl, Z.o, Z.no, .inl ⟨e, fun dx hd n => q dx hd n⟩⟩
theorem ok_noform {f C D : Addr} {fd : FuncData} (F : Fun K "__init__" "NoForm.__init__" sNoformInit f fd) (Z : ErB K mg C D "form") : FnOk P w K mg base CX0 1 f fd ["self", "form"] (spErI C "form") := by
  refine F.ok scNoformInit (fun vs H Q E h => ?_) (fun cdv A outer s H vs Q E hr h => ?_)
  · obtain ⟨a, y, rfl, _⟩ := h
    rfl
  · obtain ⟨a, y, rfl, e, q⟩ := h
    refine ⟨_, pss_cons (ps_expr (pe_oeinit (x := "PlainError") rfl Z.g Z.rg Z.rd Z.vV (pa_cons (pv 0) (pa_cons pe_str pa_nil))))
      (pss_one (ps_ost (pv 0) (pv 1))), ?_⟩
    refine ⟨_, rfl, a, C, _, rfl, by show 1 ≤ 1000; decide, Z.o, e, ?_⟩
    exact ⟨_, rfl, _, rfl, a, C, rfl, Z.o, Z.no, .inl ⟨e, fun dx hd n => q dx hd n⟩⟩
theorem ok_nopart {f C D : Addr} {fd : FuncData} (F : Fun K "__init__" "NoPart.__init__" sNopartInit f fd) (Z : ErB K mg C D "part") : FnOk P w K mg base CX0 1 f fd ["self", "part"] (spErI C "part") := by
  refine F.ok scNopartInit (fun vs H Q E h => ?_) (fun cdv A outer s H vs Q E hr h => ?_)
  · obtain ⟨a, y, rfl, _⟩ := h
    rfl
  · obtain ⟨a, y, rfl, e, q⟩ := h
    refine ⟨_, pss_cons (ps_expr (pe_oeinit (x := "PlainError") rfl Z.g Z.rg Z.rd Z.vV (pa_cons (pv 0) (pa_cons pe_str pa_nil))))
      (pss_one (ps_ost (pv 0) (pv 1))), ?_⟩
    refine ⟨_, rfl, a, C, _, rfl, by show 1 ≤ 1000; decide, Z.o, e, ?_⟩
    exact ⟨_, rfl, _, rfl, a, C, rfl, Z.o, Z.no, .inl ⟨e, fun dx hd n => q dx hd n⟩⟩
theorem ok_noline {f C D : Addr} {fd : FuncData} (F : Fun K "__init__" "NoLine.__init__" sNolineInit f fd) (Z : ErB K mg C D "line") : FnOk P w K mg base CX0 1 f fd ["self", "line"] (spErI C "line") := by
  refine F.ok scNolineInit (fun vs H Q E h => ?_) (fun cdv A outer s H vs Q E hr h => ?_)
  · obtain ⟨a, y, rfl, _⟩ := h
    rfl
  · obtain ⟨a, y, rfl, e, q⟩ := h
    refine ⟨_, pss_cons (ps_expr (pe_oeinit (x := "PlainError") rfl Z.g Z.rg Z.rd Z.vV (pa_cons (pv 0) (pa_cons pe_str pa_nil))))
      (pss_one (ps_ost (pv 0) (pv 1))), ?_⟩
    refine ⟨_, rfl, a, C, _, rfl, by show 1 ≤ 1000; decide, Z.o, e, ?_⟩
    exact ⟨_, rfl, _, rfl, a, C, rfl, Z.o, Z.no, .inl ⟨e, fun dx hd n => q dx hd n⟩⟩
end
/-- a class with a field n, as its errors are made -/
structure ErC (P : Program) (w : World) (K : PySem.W.Frag) (mg : Str → Option Value) (base : Heap) (x : Str) (C : Addr) (n : Str) : Prop where
  o : OexC K C
  init : ∃ (g : Addr) (fd : FuncData), PySem.W.findIn K (.ref C) "__init__" = some (some (.ref g)) ∧ PySem.W.typeIn K (.ref g) = some (.type "function") ∧ FnOk P w K mg base CX0 1 g fd ["self", n] (spErI C n) ∧ Binds K fd ["self", n] [] ∧ KBn K fd ["self", n] 1 [n] (fun us ws => us ++ ws) (fun xs ys => xs ++ ys)
  g : mg x = some (.ref C)
  f : XfC K C
  no : PySem.W.findIn K (.ref C) n = some none
  e : ExcC K C
/-- a class without -/
structure ErN (K : PySem.W.Frag) (mg : Str → Option Value) (x : Str) (C : Addr) : Prop where
  xi : PySem.W.excIn K C [.type "ValueError", .type "Exception", .type "BaseException", .type "object"] "ValueError.__new__" = true
  g : mg x = some (.ref C)
  k : PySem.W.keepIn K (.ref C) = true
  e : ExcC K C
/-- at a: an error of the class C with v in its field n -/
def ErF (H : Hp) (a C : Addr) (n : Str) (v : V) : Prop := ∃ d, H a = some (exo a C (some d)) ∧ H d = some (exd d [(n, v)])
theorem ErF.ext {H H' : Hp} {a C : Addr} {n : Str} {v : V} (h : ErF H a C n v) (k : Ext H H') : ErF H' a C n v := by
  obtain ⟨d, h1, h2⟩ := h
  exact ⟨d, k _ _ h1, k _ _ h2⟩
theorem ErF.at {H : Hp} {a C : Addr} {n : Str} {v : V} (h : ErF H a C n v) : ErrAt H a C := by
  obtain ⟨d, h1, h2⟩ := h
  exact .inr ⟨d, _, h1, h2⟩
/-- what its making asks -/
theorem er_ask {C : Addr} {n : Str} {H : Hp} {y : V} {Q : VK} (q : ∀ a H', H a = none → Ext H H' → ErF H' a C n y → Q (.ref a) H') : rMkV C (spErI C n) [y] H Q := by
  intro a ha
  refine ⟨a, y, rfl, upd_same, fun d hd ne => ⟨rfl, ?_⟩⟩
  have hd' : H d = none := by rw [upd_ne ne] at hd; exact hd
  refine q a _ ha (fun b o e => ?_) ⟨d, upd_same, by rw [upd_ne ne]; exact upd_same⟩
  rw [upd_ne (ne_of_none e ha), upd_ne (ne_of_none e hd'), upd_ne (ne_of_none e ha)]
  exact e
end Pd

set_option maxHeartbeats 4000000
namespace Pd
open PySem PySem.Spec PyProof.Rows L2 SX
/-! ### a drawn value -/
inductive Th (H : Hp) : V → Prop where
  | int (i : Int) : Th H (.int i)
  | bl (b : Bool) : Th H (.bl b)
  | str (s : Str) (h : PyData.strOk s = true) : Th H (.str s)
  | non : Th H .non
  | tup {a : Addr} {i : Int} {s : Str} (h : H a = some (.tup [.int i, .str s])) (k : PyData.strOk s = true) : Th H (.ref a)
theorem Th.ext {H H' : Hp} {x : V} (h : Th H x) (k : Ext H H') : Th H' x := by
  cases h with
  | int i => exact .int i
  | bl b => exact .bl b
  | str s h => exact .str s h
  | non => exact .non
  | tup h z => exact .tup (k _ _ h) z
theorem JarAt.extQ {H H' : Hp} {j : Addr} {n : Nat} (h : JarAt H j n) (k : Ext H H') : JarAt H' j n := by
  obtain ⟨a, b, c, e, r⟩ := h
  exact ⟨a, b, c, k _ _ e, r⟩
def LTH : List Nat := [97, 98, 99, 88, 89, 90, 32, 48, 49, 57, 45, 59, 44]
theorem lth_S : ("abcXYZ 019-;," : Str) = S LTH := by decide +kernel
theorem lth_ok {m : List Nat} (h : ∀ c ∈ m, c ∈ LTH) : PyData.strOk (S m) = true := by
  have small : ∀ c ∈ LTH, c < 128 := by decide
  unfold PyData.strOk
  rw [← Array.all_toList, List.all_eq_true]
  exact fun c hc => decide_eq_true (Nat.lt_trans (small c (h c hc)) (by decide))
theorem at_inQ {xs : List V} {r : Int} (h0 : 0 ≤ r) (h1 : r < (xs.length : Nat)) : ∃ x ∈ xs, atI xs r = some x := by
  obtain ⟨m, rfl⟩ := Int.eq_ofNat_of_zero_le h0
  have hm : m < xs.length := by omega
  exact ⟨xs[m], List.getElem_mem hm, atI_nat (List.getElem?_eq_getElem hm)⟩
def spThing : Sp := fun vs H Q _ => ∃ (j : Addr) (n : Nat), vs = [.ref j] ∧ JarAt H j n ∧ n + 30 < 1000000 ∧ ∀ x H', (∀ H2, Kp j H' H2 → Th H2 x) → JarAt H' j (n + 30) → Kp j H H' → Q x H'
section
variable {P : Program} {w : World} {K : PySem.W.Frag} {mg : Str → Option Value} {base : Heap}
theorem ok_thing {f : Addr} {fd : FuncData} (F : Fun K "_law_thing" "_law_thing" sLawThing f fd) (T : Nms mg) (D : Cl P w K mg base 1 "_law_draw" spDraw) : FnOk P w K mg base CX0 2 f fd ["jar"] spThing := by
  refine F.ok scLawThing (fun vs H Q E h => ?_) (fun cdv A outer s H vs Q E hr h => ?_)
  · obtain ⟨j, n, rfl, _⟩ := h
    rfl
  · obtain ⟨j, n, rfl, hJ, hn, q⟩ := h
    have nd := scLawThing.nd
    refine ⟨_, C8.pss_cut (ps_set (i := 1) nd rfl (Or.inl rfl) (pe_op op_sub (pe_cl D hr (by decide) rfl (pa_cons (pv 0) (pa_cons (pe_op op_powW pe_int pe_int) pa_nil))) (pe_op op_mul (pe_cl D hr (by decide) rfl (pa_cons (pv 0) (pa_cons pe_int pa_nil))) (pe_op op_powW pe_int pe_int))))
      (C8.pss_cut (ps_set (i := 2) nd rfl (Or.inl rfl) (pe_join pe_str (pe_lc (own := [("k", 3)]) (g := gName 3) (tt := tYes) rfl nd (pi_range1 rfl T.range (pa_cons (pe_cl D hr (by decide) rfl (pa_cons (pv 0) (pa_cons pe_int pa_nil))) pa_nil)) (blkOk_by (N := ["jar", "number", "word", "k"]) (sc := defScope sLawThing) (by decide +kernel)) (fun _ _ _ _ _ => pg_name (i := 3) nd rfl (Or.inl rfl)) (fun _ _ _ _ _ => pts_nil)
          (fun _ _ _ _ _ => pe_ix ix_str pe_str (pe_cl D hr (by decide) rfl (pa_cons (pv 0) (pa_cons pe_int pa_nil))) (fun _ _ => rfl)))))
      (pss_one (ps_ret (pe_ix ix_list (pe_lst (pa_cons (pv 1) (pa_cons (pv 1) (pa_cons (pe_cmpR op_eq (pe_cl D hr (by decide) rfl (pa_cons (pv 0) (pa_cons pe_int pa_nil))) pe_int (nomark _)) (pa_cons (pv 2) (pa_cons pe_non (pa_cons (pe_tup (pa_cons (pv 1) (pa_cons (pv 2) pa_nil)))
        (pa_cons (pe_cl D hr (by decide) rfl (pa_cons (pv 0) (pa_cons pe_int pa_nil))) pa_nil)))))))) (pe_cl D hr (by decide) rfl (pa_cons (pv 0) (pa_cons pe_int pa_nil))) (fun _ _ => rfl))))), ?_⟩
    obtain ⟨xs0, hx0⟩ := hJ.lst
    have pw : ∀ e : Int, 0 ≤ e → e ≤ 1000 → CPowW 10 e := fun e h0 h1 => powW_ok2 (a := 4) (by decide) (by decide) h0 h1 (by decide)
    refine ⟨fun σ' H' => ∃ i : Int, σ' = [some (.ref j), some (.int i), none, none] ∧ JarAt H' j (n + 2) ∧ Kp j H H', ?_, ?_⟩
    · refine ⟨_, rfl, _, _, rfl, rfl, pw 40 (by decide) (by decide), j, _, n, rfl, hJ, by omega, by decide +kernel, by decide +kernel, fun r H1 h0 h1 J1 k1 => ?_⟩
      refine ⟨_, rfl, j, 2, n + 1, rfl, J1, by omega, by decide, by decide, fun r2 H2 h02 h12 J2 k2 => ?_⟩
      refine ⟨_, _, rfl, rfl, pw 39 (by decide) (by decide), _, _, rfl, rfl, .inl ⟨by omega, by omega⟩, _, _, rfl, rfl, ?_⟩
      exact ⟨_, rfl, J2, k1.trans k2⟩
    rintro σ1 H1 ⟨i, rfl, J1, k1⟩
    refine ⟨fun σ' H' => ∃ s : Str, PyData.strOk s = true ∧ σ' = [some (.ref j), some (.int i), some (.str s), none] ∧ JarAt H' j (n + 12) ∧ Kp j H H', ?_, ?_⟩
    · obtain ⟨xs1, hx1⟩ := J1.lst
      refine ⟨⟨_, rfl⟩, _, rfl, j, 9, _, rfl, J1, by omega, by decide, by decide, fun r H2 h0 h1 J2 k2 => ⟨_, rfl, by omega, by omega, fun D1 hD => ?_⟩⟩
      obtain ⟨xs2, hx2⟩ := J2.lst
      have nDj : D1 ≠ j := fun e => by rw [e, hx2] at hD; cases hD
      refine lc_it (walk_range (lo := 0) (n := r.toNat)) (fun i H' => ∃ m : List Nat, H' D1 = some (.lst ((m.map sg).map V.str)) ∧ m.length = i ∧ (∀ c ∈ m, c ∈ LTH) ∧ JarAt H' j (n + 3 + i) ∧ Kp j H H')
        ⟨[], upd_same, rfl, (fun _ h => nomatch h), J2.new hD, (k1.trans k2).new hD⟩ (fun _ _ _ _ => trivial) ?_ ?_
      · rintro t x H3 H4 hi ⟨m, hD3, hl, hm, J3, k3⟩ ⟨rfl, rfl⟩
        refine ⟨rfl, _, rfl, j, 13, _, rfl, J3, by omega, by decide, by decide, fun r4 H4 h04 h14 J4 k4 => ?_⟩
        have hc : r4.toNat < LTH.length := by show r4.toNat < 13; omega
        refine ⟨_, r4, LTH[r4.toNat], rfl, rfl, by rw [lth_S, S_len, sizeLine_eq]; decide, ?_, ?_⟩
        · rw [lth_S]
          have e : ((r4.toNat : Nat) : Int) = r4 := by omega
          have z : atI (S LTH).cps.toList ((r4.toNat : Nat) : Int) = some LTH[r4.toNat] := atI_nat (List.getElem?_eq_getElem hc)
          rw [e] at z
          exact z
        have hD4 : H4 D1 = some (.lst ((m.map sg).map V.str)) := k4 D1 _ nDj hD3
        refine ⟨_, hD4, by rw [List.length_map, List.length_map, hl, sizeLine_eq]; omega, m ++ [LTH[r4.toNat]], ?_, by rw [List.length_append, hl]; rfl, fun d hd => ?_, ?_, ?_⟩
        · rw [upd_same, List.map_append, List.map_append]; rfl
        · rcases List.mem_append.mp hd with h | h
          · exact hm d h
          · rw [List.mem_singleton.mp h]; exact List.getElem_mem hc
        · obtain ⟨a', b', c', e1, e2⟩ := J4.le (show n + 3 + t + 1 ≤ n + 3 + (t + 1) by omega)
          exact ⟨a', b', c', by rw [upd_ne nDj.symm]; exact e1, e2⟩
        · intro b o nb hb
          rw [upd_ne (ne_of_none ((k1.trans k2) b o nb hb) hD)]; exact (k3.trans k4) b o nb hb
      · rintro H3 ⟨m, hD3, hl, hm, J3, k3⟩
        refine ⟨_, D1, m.map sg, rfl, rfl, .inl (SqL.of hD3), ?_, ?_⟩
        · rw [sum_sg, List.length_map]
          show m.length + m.length * 0 ≤ 16777216
          omega
        rw [join_sg]
        exact ⟨_, lth_ok hm, rfl, J3.le (by omega), k3⟩
    rintro σ2 H2 ⟨s, hs, rfl, J2, k2⟩
    obtain ⟨xs2, hx2⟩ := J2.lst
    refine ⟨_, rfl, _, rfl, _, rfl, j, 2, _, rfl, J2, by omega, by decide, by decide, fun r3 H3 h03 h13 J3 k3 => ⟨rfl, ?_⟩⟩
    refine ⟨_, rfl, _, rfl, _, rfl, by show 2 ≤ sizeLine; decide, fun t ht => ?_⟩
    obtain ⟨H4, z4⟩ : ∃ H', H' = L2.upd H3 t (.tup [.int i, .str s]) := ⟨_, rfl⟩
    rw [← z4]
    have k4 : Ext H3 H4 := by rw [z4]; exact Ext.refl.new ht
    have x4 : H4 t = some (.tup [.int i, .str s]) := by rw [z4]; exact upd_same
    have tj : t ≠ j := by
      obtain ⟨xs3, hx3⟩ := J3.lst
      rintro rfl; rw [hx3] at ht; cases ht
    refine ⟨_, rfl, j, 20, _, rfl, J3.extQ k4, by omega, by decide, by decide, fun r5 H5 h05 h15 J5 k5 => ?_⟩
    refine ⟨by show 7 ≤ sizeLine; decide, fun l hl => ?_⟩
    obtain ⟨xs5, hx5⟩ := J5.lst
    obtain ⟨H6, z6⟩ : ∃ H', H' = L2.upd H5 l (.lst [.int i, .int i, .bl (decide (V.int r3 = V.int 1)), .str s, .non, .ref t, .int r5]) := ⟨_, rfl⟩
    rw [← z6]
    have k6 : Ext H5 H6 := by rw [z6]; exact Ext.refl.new hl
    have x6 : H6 l = some (.lst [.int i, .int i, .bl (decide (V.int r3 = V.int 1)), .str s, .non, .ref t, .int r5]) := by rw [z6]; exact upd_same
    have lj : l ≠ j := by rintro rfl; rw [hx5] at hl; cases hl
    refine ⟨_, rfl, j, 7, _, rfl, J5.extQ k6, by omega, by decide, by decide, fun r7 H7 h07 h17 J7 k7 => ?_⟩
    obtain ⟨v, hv, ev⟩ := at_inQ (xs := [.int i, .int i, .bl (decide (V.int r3 = V.int 1)), .str s, .non, .ref t, .int r5]) h07 (by show r7 < 7; omega)
    refine ⟨l, _, r7, v, rfl, rfl, SqL.of (k7 l _ lj x6), ev, q v H7 (fun H8 k8 => ?_) (J7.le (by omega)) ((((k2.trans k3).trans k4.kp).trans (k5.trans k6.kp)).trans k7)⟩
    have xt : H8 t = some (.tup [.int i, .str s]) := k8 t _ tj (k7 t _ tj (k6 t _ (k5 t _ tj x4)))
    simp only [List.mem_cons, List.not_mem_nil, or_false] at hv
    rcases hv with rfl | rfl | rfl | rfl | rfl | rfl | rfl
    · exact .int _
    · exact .int _
    · exact .bl _
    · exact .str _ hs
    · exact .non
    · exact .tup xt hs
    · exact .int _
end
end Pd

set_option maxHeartbeats 4000000
namespace Pd
open PySem PySem.Spec PyProof.Rows L2 SX
/-! ### the same value; of which classes an error is -/
theorem Th.dp {K : PySem.W.Frag} {H : Hp} {x : V} (h : Th H x) : ∃ d, Dp K H x d ∧ SeqAt.shaped d = true := by
  cases h with
  | int i => exact ⟨_, .int i, rfl⟩
  | bl b => exact ⟨_, .bl b, rfl⟩
  | str s h => exact ⟨_, .str s, by simp [SeqAt.shaped, PyData.canLay0, PyData.depth, h]⟩
  | non => exact ⟨_, .non, rfl⟩
  | tup h z => exact ⟨_, .tup (SqT.of h) (.cons (.int _) (.cons (.str _) .nil)), by simp [SeqAt.shaped, PyData.canLay0, PyData.canLayAll0, PyData.depth, PyData.depthAll, z]⟩
theorem Th.ty {K : PySem.W.Frag} {H : Hp} {x : V} (h : Th H x) : ∃ (t : String) (b1 b2 : Bool), TyX K H x (.type t) ∧ kitB t "bool" = some b1 ∧ kitB t "int" = some b2 := by
  cases h with
  | int i => exact ⟨_, false, true, .base (.int i), by decide +kernel, by decide +kernel⟩
  | bl b => exact ⟨_, true, true, .base (.bl b), by decide +kernel, by decide +kernel⟩
  | str s h => exact ⟨_, false, false, .base (.str s), by decide +kernel, by decide +kernel⟩
  | non => exact ⟨_, false, false, .base .non, by decide +kernel, by decide +kernel⟩
  | tup h z => exact ⟨_, false, false, .base (.tup h), by decide +kernel, by decide +kernel⟩
theorem eqv_self {d : PyData} (h : SeqAt.shaped d = true) : PyData.eqv d d = true := SeqAt.eqv_refl d (SeqAt.canLay_of_shaped h)
def spSameQ : Sp := fun vs H Q _ => ∃ x, vs = [x, x] ∧ Th H x ∧ Q (.bl true) H
section
variable {P : Program} {w : World} {K : PySem.W.Frag} {mg : Str → Option Value} {base : Heap}
theorem ok_same {f : Addr} {fd : FuncData} (F : Fun K "_law_same" "_law_same" sLawSame f fd) (T : Nms mg) : FnOk P w K mg base CX0 1 f fd ["found", "due"] spSameQ := by
  refine F.ok scLawSame (fun vs H Q E h => ?_) (fun cdv A outer s H vs Q E hr h => ?_)
  · obtain ⟨x, rfl, _⟩ := h
    rfl
  · obtain ⟨x, rfl, hx, q⟩ := h
    have nd := scLawSame.nd
    refine ⟨_, pss_cons (ps_if (PW.pt (pw_or (pt_cmpR op_ne (pe_callB call_isi (by rfl) T.isi (by decide +kernel) (pa_cons (pv 0) (pa_cons (pe_bltn (v := .ty "bool") (by rfl) T.bool (by decide +kernel) rfl) pa_nil))) (pe_callB call_isi (by rfl) T.isi (by decide +kernel) (pa_cons (pv 1) (pa_cons (pe_bltn (v := .ty "bool") (by rfl) T.bool (by decide +kernel) rfl) pa_nil))) (nomark _))
        (pw_or1 (pt_cmpR op_ne (pe_callB call_isi (by rfl) T.isi (by decide +kernel) (pa_cons (pv 0) (pa_cons (pe_bltn (v := .ty "int") (by rfl) T.int (by decide +kernel) rfl) pa_nil))) (pe_callB call_isi (by rfl) T.isi (by decide +kernel) (pa_cons (pv 1) (pa_cons (pe_bltn (v := .ty "int") (by rfl) T.int (by decide +kernel) rfl) pa_nil))) (nomark _))))) (pss_one (ps_ret pe_bl)) pss_nil)
      (pss_one (ps_ret (pe_cmpR (op_eqD hr.units) (pv 0) (pv 1) (nomark _)))), ?_⟩
    obtain ⟨d, hd, sd⟩ := hx.dp (K := K)
    obtain ⟨t, b1, b2, ty, k1, k2⟩ := hx.ty (K := K)
    have e1 : ∀ b : Bool, (!decide (V.bl b = V.bl b)) = false := fun b => by simp
    refine ⟨_, rfl, _, _, _, _, b1, rfl, .ty "bool", ty, kit_ty k1, _, rfl, _, _, _, _, b1, rfl, .ty "bool", ty, kit_ty k1, rfl, ?_⟩
    rw [e1]
    refine ⟨_, rfl, iteF ⟨_, rfl, _, _, _, _, b2, rfl, .ty "int", ty, kit_ty k2, _, rfl, _, _, _, _, b2, rfl, .ty "int", ty, kit_ty k2, rfl, ?_⟩⟩
    rw [e1]
    refine ⟨_, rfl, iteF ?_⟩
    refine ⟨_, rfl, _, rfl, d, d, hd, hd, sd, sd, ?_⟩
    rw [eqv_self sd]
    exact q
end
end Pd

set_option maxHeartbeats 4000000
namespace Pd
open PySem PySem.Spec PyProof.Rows L2 SX
/-! ### of which classes an error is -/
structure C9 where
  p : Addr
  t : Addr
  d : Addr
  u : Addr
  s : Addr
  e : Addr
  f : Addr
  a : Addr
  l : Addr
/-- their names -/
structure N9 (mg : Str → Option Value) (C : C9) : Prop where
  p : mg "PlainError" = some (.ref C.p)
  t : mg "NoText" = some (.ref C.t)
  d : mg "NoDoor" = some (.ref C.d)
  u : mg "NothingToUndo" = some (.ref C.u)
  s : mg "NoStep" = some (.ref C.s)
  e : mg "NoDeed" = some (.ref C.e)
  f : mg "NoForm" = some (.ref C.f)
  a : mg "NoPart" = some (.ref C.a)
  l : mg "NoLine" = some (.ref C.l)
  v : mg "ValueError" = none
/-- what isinstance tells of an error of the class D: PlainError, ValueError, and at most its own -/
def kAt (t : Option Nat) (i : Nat) : Bool := decide (t = some i)
def bsAt (t : Option Nat) : List Bool := [true, true] ++ [kAt t 0, kAt t 1, kAt t 2, kAt t 3, kAt t 4, kAt t 5, kAt t 6, kAt t 7]
structure KitA (K : PySem.W.Frag) (C : C9) (D : Addr) (z : Option Nat) : Prop where
  p : PySem.W.kitOne K (.ref D) (.ref C.p) = some true
  v : PySem.W.kitOne K (.ref D) (.type "ValueError") = some true
  t : PySem.W.kitOne K (.ref D) (.ref C.t) = some (kAt z 0)
  d : PySem.W.kitOne K (.ref D) (.ref C.d) = some (kAt z 1)
  u : PySem.W.kitOne K (.ref D) (.ref C.u) = some (kAt z 2)
  s : PySem.W.kitOne K (.ref D) (.ref C.s) = some (kAt z 3)
  e : PySem.W.kitOne K (.ref D) (.ref C.e) = some (kAt z 4)
  f : PySem.W.kitOne K (.ref D) (.ref C.f) = some (kAt z 5)
  a : PySem.W.kitOne K (.ref D) (.ref C.a) = some (kAt z 6)
  l : PySem.W.kitOne K (.ref D) (.ref C.l) = some (kAt z 7)
def spCls (K : PySem.W.Frag) (C : C9) : Sp := fun vs H Q _ => ∃ (a D : Addr) (t : Option Nat), vs = [.ref a] ∧ ErrAt H a D ∧ ExcC K D ∧ KitA K C D t ∧ ∀ l H', H l = none → H' l = some (.lst ((bsAt t).map V.bl)) → Ext H H' → Q (.ref l) H'
theorem ErrAt.ext {H H' : Hp} {a D : Addr} (h : ErrAt H a D) (k : Ext H H') : ErrAt H' a D := by
  rcases h with h | ⟨d, fs, h1, h2⟩
  · exact .inl (k _ _ h)
  · exact .inr ⟨d, fs, k _ _ h1, k _ _ h2⟩
theorem Ext.newQ {H H' : Hp} {D : Addr} {o : HO} (a : Ext H H') (h : H' D = none) : Ext H (upd H' D o) := fun b u e => by
  rw [upd_ne (ne_of_none (a b u e) h)]; exact a b u e
theorem Ext.none {H H' : Hp} {l : Addr} (k : Ext H H') (h : H' l = none) : H l = none := by
  cases e : H l with
  | none => rfl
  | some o => rw [k l o e] at h; cases h
section
variable {P : Program} {w : World} {K : PySem.W.Frag} {mg : Str → Option Value} {base : Heap}
theorem ok_cls {f : Addr} {fd : FuncData} {C : C9} (F : Fun K "_law_classes" "_law_classes" sLawClasses f fd) (T : Nms mg) (N : N9 mg C) : FnOk P w K mg base CX0 1 f fd ["error"] (spCls K C) := by
  refine F.ok scLawClasses (fun vs H Q E h => ?_) (fun cdv A outer s H vs Q E hr h => ?_)
  · obtain ⟨a, D, t, rfl, _⟩ := h
    rfl
  · obtain ⟨a, D, t, rfl, h, X, k, q⟩ := h
    have nd := scLawClasses.nd
    refine ⟨_, C8.pss_cut (ps_set (i := 1) nd rfl (Or.inl rfl) (pe_lst (pa_cons (pe_callB call_isV (by rfl) T.isi (by decide +kernel) (pa_cons (pv 0) (pa_cons (pe_glob (v := .ref C.p) rfl N.p rfl) pa_nil))) (pa_cons (pe_callB call_isV (by rfl) T.isi (by decide +kernel) (pa_cons (pv 0) (pa_cons (pe_bltn (v := .ty "ValueError") (by rfl) N.v (by decide +kernel) rfl) pa_nil))) (pa_cons (pe_callB call_isV (by rfl) T.isi (by decide +kernel) (pa_cons (pv 0) (pa_cons (pe_glob (v := .ref C.t) rfl N.t rfl) pa_nil))) pa_nil)))))
      (C8.pss_cut (ps_set (i := 1) nd rfl (Or.inl rfl) (pe_op op_cat (pv 1) (pe_lst (pa_cons (pe_callB call_isV (by rfl) T.isi (by decide +kernel) (pa_cons (pv 0) (pa_cons (pe_glob (v := .ref C.d) rfl N.d rfl) pa_nil))) (pa_cons (pe_callB call_isV (by rfl) T.isi (by decide +kernel) (pa_cons (pv 0) (pa_cons (pe_glob (v := .ref C.u) rfl N.u rfl) pa_nil))) (pa_cons (pe_callB call_isV (by rfl) T.isi (by decide +kernel) (pa_cons (pv 0) (pa_cons (pe_glob (v := .ref C.s) rfl N.s rfl) pa_nil))) pa_nil))))))
      (C8.pss_cut (ps_set (i := 1) nd rfl (Or.inl rfl) (pe_op op_cat (pv 1) (pe_lst (pa_cons (pe_callB call_isV (by rfl) T.isi (by decide +kernel) (pa_cons (pv 0) (pa_cons (pe_glob (v := .ref C.e) rfl N.e rfl) pa_nil))) (pa_cons (pe_callB call_isV (by rfl) T.isi (by decide +kernel) (pa_cons (pv 0) (pa_cons (pe_glob (v := .ref C.f) rfl N.f rfl) pa_nil))) (pa_cons (pe_callB call_isV (by rfl) T.isi (by decide +kernel) (pa_cons (pv 0) (pa_cons (pe_glob (v := .ref C.a) rfl N.a rfl) pa_nil))) pa_nil))))))
      (pss_one (ps_ret (pe_op op_cat (pv 1) (pe_lst (pa_cons (pe_callB call_isV (by rfl) T.isi (by decide +kernel) (pa_cons (pv 0) (pa_cons (pe_glob (v := .ref C.l) rfl N.l rfl) pa_nil))) pa_nil))))))), ?_⟩
    refine ⟨fun σ' H' => ∃ l, σ' = [some (.ref a), some (.ref l)] ∧ H' l = some (.lst [.bl true, .bl true, .bl (kAt t 0)]) ∧ Ext H H', ?_, ?_⟩
    · refine ⟨_, rfl, a, D, .ref C.p, .ref C.p, _, rfl, h, X, (fun u r => r), k.p, _, rfl, a, D, .ty "ValueError", .type "ValueError", true, rfl, h, X, (fun u r => r), k.v, _, rfl, a, D, .ref C.t, .ref C.t, _, rfl, h, X, (fun u r => r), k.t, by show 3 ≤ sizeLine; decide, fun l hl => ?_⟩
      exact ⟨l, rfl, upd_same, Ext.refl.new hl⟩
    rintro σ1 H1 ⟨l1, rfl, x1, k1⟩
    refine ⟨fun σ' H' => ∃ l, σ' = [some (.ref a), some (.ref l)] ∧ H' l = some (.lst [.bl true, .bl true, .bl (kAt t 0), .bl (kAt t 1), .bl (kAt t 2), .bl (kAt t 3)]) ∧ Ext H H', ?_, ?_⟩
    · refine ⟨_, rfl, _, rfl, a, D, .ref C.d, .ref C.d, _, rfl, (h.ext k1), X, (fun u r => r), k.d, _, rfl, a, D, .ref C.u, .ref C.u, _, rfl, (h.ext k1), X, (fun u r => r), k.u, _, rfl, a, D, .ref C.s, .ref C.s, _, rfl, (h.ext k1), X, (fun u r => r), k.s, by show 3 ≤ sizeLine; decide, fun l hl => ?_⟩
      have k2 : Ext H1 (L2.upd H1 l (.lst [.bl (kAt t 1), .bl (kAt t 2), .bl (kAt t 3)])) := Ext.refl.new hl
      exact ⟨l1, l, _, _, rfl, rfl, k2 _ _ x1, upd_same, by show 3 + 3 ≤ sizeLine; decide, fun l2 hl2 => ⟨l2, rfl, upd_same, (k1.trans k2).newQ hl2⟩⟩
    rintro σ2 H2 ⟨l2, rfl, x2, k2⟩
    refine ⟨fun σ' H' => ∃ l, σ' = [some (.ref a), some (.ref l)] ∧ H' l = some (.lst [.bl true, .bl true, .bl (kAt t 0), .bl (kAt t 1), .bl (kAt t 2), .bl (kAt t 3), .bl (kAt t 4), .bl (kAt t 5), .bl (kAt t 6)]) ∧ Ext H H', ?_, ?_⟩
    · refine ⟨_, rfl, _, rfl, a, D, .ref C.e, .ref C.e, _, rfl, (h.ext k2), X, (fun u r => r), k.e, _, rfl, a, D, .ref C.f, .ref C.f, _, rfl, (h.ext k2), X, (fun u r => r), k.f, _, rfl, a, D, .ref C.a, .ref C.a, _, rfl, (h.ext k2), X, (fun u r => r), k.a, by show 3 ≤ sizeLine; decide, fun l hl => ?_⟩
      have k3 : Ext H2 (L2.upd H2 l (.lst [.bl (kAt t 4), .bl (kAt t 5), .bl (kAt t 6)])) := Ext.refl.new hl
      exact ⟨l2, l, _, _, rfl, rfl, k3 _ _ x2, upd_same, by show 6 + 3 ≤ sizeLine; decide, fun l3 hl3 => ⟨l3, rfl, upd_same, (k2.trans k3).newQ hl3⟩⟩
    rintro σ3 H3 ⟨l3, rfl, x3, k3⟩
    refine ⟨_, rfl, _, rfl, a, D, .ref C.l, .ref C.l, _, rfl, (h.ext k3), X, (fun u r => r), k.l, by show 1 ≤ sizeLine; decide, fun l hl => ?_⟩
    have k4 : Ext H3 (L2.upd H3 l (.lst [.bl (kAt t 7)])) := Ext.refl.new hl
    exact ⟨l3, l, _, _, rfl, rfl, k4 _ _ x3, upd_same, by show 9 + 1 ≤ sizeLine; decide, fun l4 hl4 => q l4 _ ((k3.trans k4).none hl4) upd_same ((k3.trans k4).newQ hl4)⟩
end
end Pd

set_option maxHeartbeats 4000000
namespace Pd
open PySem PySem.Spec PyProof.Rows L2 SX
/-! ### an error of each class -/
structure E9 (P : Program) (w : World) (K : PySem.W.Frag) (mg : Str → Option Value) (base : Heap) (C : C9) : Prop where
  p : ErN K mg "PlainError" C.p
  t : ErN K mg "NoText" C.t
  d : ErN K mg "NoDoor" C.d
  u : ErN K mg "NothingToUndo" C.u
  s : ErC P w K mg base "NoStep" C.s "index"
  e : ErC P w K mg base "NoDeed" C.e "index"
  f : ErC P w K mg base "NoForm" C.f "form"
  a : ErC P w K mg base "NoPart" C.a "part"
  l : ErC P w K mg base "NoLine" C.l "line"
/-- at l: a list of them, the last five with x in their field -/
def ErrsAt (C : C9) (H : Hp) (l : Addr) (x : V) : Prop := ∃ a0 a1 a2 a3 a4 a5 a6 a7 : Addr, H l = some (.lst [.ref a0, .ref a1, .ref a2, .ref a3, .ref a4, .ref a5, .ref a6, .ref a7]) ∧
  H a0 = some (ExO (.ref C.t) a0) ∧ H a1 = some (ExO (.ref C.d) a1) ∧ H a2 = some (ExO (.ref C.u) a2) ∧ ErF H a3 C.s "index" x ∧ ErF H a4 C.e "index" x ∧ ErF H a5 C.f "form" x ∧ ErF H a6 C.a "part" x ∧ ErF H a7 C.l "line" x
theorem ErrsAt.ext {C : C9} {H H' : Hp} {l : Addr} {x : V} (h : ErrsAt C H l x) (k : Ext H H') : ErrsAt C H' l x := by
  obtain ⟨a0, a1, a2, a3, a4, a5, a6, a7, e, h0, h1, h2, h3, h4, h5, h6, h7⟩ := h
  exact ⟨a0, a1, a2, a3, a4, a5, a6, a7, k _ _ e, k _ _ h0, k _ _ h1, k _ _ h2, h3.ext k, h4.ext k, h5.ext k, h6.ext k, h7.ext k⟩
def spErrs (C : C9) : Sp := fun vs H Q _ => ∃ (z : Str) (x : V) (b : Bool), vs = [.str z, x, .bl b] ∧ ∀ l H', H l = none → ErrsAt C H' l x → Ext H H' → Q (.ref l) H'
section
variable {P : Program} {w : World} {K : PySem.W.Frag} {mg : Str → Option Value} {base : Heap}
theorem ok_errs {f : Addr} {fd : FuncData} {C : C9} (F : Fun K "_law_errors" "_law_errors" sLawErrors f fd) (W : E9 P w K mg base C) : FnOk P w K mg base CX0 3 f fd ["word", "thing", "by_name"] (spErrs C) := by
  refine F.ok scLawErrors (fun vs H Q E h => ?_) (fun cdv A outer s H vs Q E hr h => ?_)
  · obtain ⟨z, x, b, rfl, _⟩ := h
    rfl
  · obtain ⟨z, x, b, rfl, q⟩ := h
    have nd := scLawErrors.nd
    obtain ⟨gs, fds, js, ts, Fs, bs, ks⟩ := W.s.init
    obtain ⟨ge, fde, je, te, Fe, be, ke⟩ := W.e.init
    obtain ⟨gf, fdf, jf, tf, Ff, bf, kf⟩ := W.f.init
    obtain ⟨ga, fda, ja, ta, Fa, ba, ka⟩ := W.a.init
    obtain ⟨gl, fdl, jl, tl, Fl, bl, kl⟩ := W.l.init
    refine ⟨_, C8.pss_cut (ps_set (i := 3) nd rfl (Or.inl rfl) (pe_lst (pa_cons (pe_exc1 PySem.F.excBase_ValueError W.t.xi W.t.g W.t.k rfl (pv 0)) (pa_cons (pe_exc1 PySem.F.excBase_ValueError W.d.xi W.d.g W.d.k rfl (pv 0)) (pa_cons (pe_exc1 PySem.F.excBase_ValueError W.u.xi W.u.g W.u.k rfl (pv 0)) pa_nil)))))
      (C8.pss_cut (ps_if (pt_val (pv 2)) (C8.pss_cut (ps_set (i := 3) nd rfl (Or.inl rfl) (pe_op op_cat (pv 3) (pe_lst (pa_cons (pe_mkVK W.s.o js ts Fs hr ks (fun _ _ => rfl) pass0 rfl W.s.g (pk_cons (pv 1) pk_nil)) (pa_cons (pe_mkVK W.e.o je te Fe hr ke (fun _ _ => rfl) pass0 rfl W.e.g (pk_cons (pv 1) pk_nil)) (pa_cons (pe_mkVK W.f.o jf tf Ff hr kf (fun _ _ => rfl) pass0 rfl W.f.g (pk_cons (pv 1) pk_nil)) pa_nil))))))
        (pss_one (ps_ret (pe_op op_cat (pv 3) (pe_lst (pa_cons (pe_mkVK W.a.o ja ta Fa hr ka (fun _ _ => rfl) pass0 rfl W.a.g (pk_cons (pv 1) pk_nil)) (pa_cons (pe_mkVK W.l.o jl tl Fl hr kl (fun _ _ => rfl) pass0 rfl W.l.g (pk_cons (pv 1) pk_nil)) pa_nil))))))) pss_nil)
      (pss_one (ps_ret (pe_op op_cat (pv 3) (pe_lst (pa_cons (pe_mkV W.s.o js ts Fs hr bs pass0 rfl W.s.g (pa_cons (pv 1) pa_nil)) (pa_cons (pe_mkV W.e.o je te Fe hr be pass0 rfl W.e.g (pa_cons (pv 1) pa_nil)) (pa_cons (pe_mkV W.f.o jf tf Ff hr bf pass0 rfl W.f.g (pa_cons (pv 1) pa_nil)) (pa_cons (pe_mkV W.a.o ja ta Fa hr ba pass0 rfl W.a.g (pa_cons (pv 1) pa_nil)) (pa_cons (pe_mkV W.l.o jl tl Fl hr bl pass0 rfl W.l.g (pa_cons (pv 1) pa_nil)) pa_nil)))))))))), ?_⟩
    refine ⟨fun σ' H' => ∃ l a0 a1 a2, σ' = [some (.str z), some x, some (.bl b), some (.ref l)] ∧ H' l = some (.lst [.ref a0, .ref a1, .ref a2]) ∧ H' a0 = some (ExO (.ref C.t) a0) ∧ H' a1 = some (ExO (.ref C.d) a1) ∧ H' a2 = some (ExO (.ref C.u) a2) ∧ Ext H H', ?_, ?_⟩
    · refine ⟨_, rfl, fun a0 n0 => ?_⟩
      obtain ⟨H1, z0⟩ : ∃ H', H' = L2.upd H a0 (ExO (.ref C.t) a0) := ⟨_, rfl⟩
      rw [← z0]
      have k0 : Ext H H1 := by rw [z0]; exact Ext.refl.new n0
      have x0 : H1 a0 = some (ExO (.ref C.t) a0) := by rw [z0]; exact upd_same
      refine ⟨_, rfl, fun a1 n1 => ?_⟩
      obtain ⟨H2, z1⟩ : ∃ H', H' = L2.upd H1 a1 (ExO (.ref C.d) a1) := ⟨_, rfl⟩
      rw [← z1]
      have k1 : Ext H1 H2 := by rw [z1]; exact Ext.refl.new n1
      have x1 : H2 a1 = some (ExO (.ref C.d) a1) := by rw [z1]; exact upd_same
      refine ⟨_, rfl, fun a2 n2 => ?_⟩
      obtain ⟨H3, z2⟩ : ∃ H', H' = L2.upd H2 a2 (ExO (.ref C.u) a2) := ⟨_, rfl⟩
      rw [← z2]
      have k2 : Ext H2 H3 := by rw [z2]; exact Ext.refl.new n2
      have x2 : H3 a2 = some (ExO (.ref C.u) a2) := by rw [z2]; exact upd_same
      refine ⟨by show 3 ≤ sizeLine; decide, fun l nl => ?_⟩
      have k3 : Ext H3 (L2.upd H3 l (.lst [.ref a0, .ref a1, .ref a2])) := Ext.refl.new nl
      exact ⟨l, a0, a1, a2, rfl, upd_same, k3 _ _ (k2 _ _ (k1 _ _ x0)), k3 _ _ (k2 _ _ x1), k3 _ _ x2, ((k0.trans k1).trans k2).trans k3⟩
    rintro σ1 H1 ⟨l1, a0, a1, a2, rfl, x1, y0, y1, y2, k1⟩
    refine ⟨fun σ' H' => σ' = [some (.str z), some x, some (.bl b), some (.ref l1)] ∧ H' = H1 ∧ b = false, ⟨_, rfl, b, rfl, ?_⟩, ?_⟩
    · cases b with
      | false => exact iteF ⟨rfl, rfl, rfl⟩
      | true =>
        refine iteT ⟨fun σ' H' => ∃ l a3 a4 a5, σ' = [some (.str z), some x, some (.bl true), some (.ref l)] ∧ H' l = some (.lst [.ref a0, .ref a1, .ref a2, .ref a3, .ref a4, .ref a5]) ∧ ErF H' a3 C.s "index" x ∧ ErF H' a4 C.e "index" x ∧ ErF H' a5 C.f "form" x ∧ Ext H1 H', ?_, ?_⟩
        · refine ⟨_, rfl, _, rfl, rfl, er_ask fun a3 H2 n3 k2 f3 => ⟨_, rfl, rfl, er_ask fun a4 H3 n4 k3 f4 => ⟨_, rfl, rfl, er_ask fun a5 H4 n5 k4 f5 => ⟨by show 3 ≤ sizeLine; decide, fun l nl => ?_⟩⟩⟩⟩
          have k5 : Ext H4 (L2.upd H4 l (.lst [.ref a3, .ref a4, .ref a5])) := Ext.refl.new nl
          have k15 := ((k2.trans k3).trans k4).trans k5
          exact ⟨l1, l, _, _, rfl, rfl, k15 _ _ x1, upd_same, by show 3 + 3 ≤ sizeLine; decide, fun l2 n2 => ⟨l2, a3, a4, a5, rfl, upd_same, (f3.ext ((k3.trans k4).trans k5)).ext (Ext.refl.newQ n2), (f4.ext (k4.trans k5)).ext (Ext.refl.newQ n2), (f5.ext k5).ext (Ext.refl.newQ n2), k15.newQ n2⟩⟩
        rintro σ2 H2 ⟨l2, a3, a4, a5, rfl, x2, f3, f4, f5, k2⟩
        refine ⟨_, rfl, _, rfl, rfl, er_ask fun a6 H3 n6 k3 f6 => ⟨_, rfl, rfl, er_ask fun a7 H4 n7 k4 f7 => ⟨by show 2 ≤ sizeLine; decide, fun l nl => ?_⟩⟩⟩
        have k5 : Ext H4 (L2.upd H4 l (.lst [.ref a6, .ref a7])) := Ext.refl.new nl
        have k25 := (k3.trans k4).trans k5
        refine ⟨l2, l, _, _, rfl, rfl, k25 _ _ x2, upd_same, by show 6 + 2 ≤ sizeLine; decide, fun l3 n3 => ?_⟩
        have k6 : Ext _ (L2.upd _ l3 _) := (Ext.refl.newQ (o := .lst ([.ref a0, .ref a1, .ref a2, .ref a3, .ref a4, .ref a5] ++ [.ref a6, .ref a7])) n3)
        have k26 := k25.trans k6
        have k16 := k2.trans k26
        exact q l3 _ ((k1.trans (k2.trans k25)).none n3) ⟨a0, a1, a2, a3, a4, a5, a6, a7, upd_same, k16 _ _ y0, k16 _ _ y1, k16 _ _ y2, f3.ext k26, f4.ext k26, f5.ext k26, f6.ext ((k4.trans k5).trans k6), f7.ext (k5.trans k6)⟩ (k1.trans k16)
    rintro σ2 H2 ⟨rfl, rfl, rfl⟩
    refine ⟨_, rfl, _, rfl, (by show 1 ≤ 1000; decide), er_ask fun a3 H3 n3 k3 f3 => ⟨_, rfl, (by show 1 ≤ 1000; decide), er_ask fun a4 H4 n4 k4 f4 => ⟨_, rfl, (by show 1 ≤ 1000; decide), er_ask fun a5 H5 n5 k5 f5 => ⟨_, rfl, (by show 1 ≤ 1000; decide), er_ask fun a6 H6 n6 k6 f6 => ⟨_, rfl, (by show 1 ≤ 1000; decide), er_ask fun a7 H7 n7 k7 f7 => ⟨by show 5 ≤ sizeLine; decide, fun l nl => ?_⟩⟩⟩⟩⟩⟩
    have k8 : Ext H7 (L2.upd H7 l (.lst [.ref a3, .ref a4, .ref a5, .ref a6, .ref a7])) := Ext.refl.new nl
    have k28 := ((((k3.trans k4).trans k5).trans k6).trans k7).trans k8
    refine ⟨l1, l, _, _, rfl, rfl, k28 _ _ x1, upd_same, by show 3 + 5 ≤ sizeLine; decide, fun l3 n3' => ?_⟩
    have k9 : Ext _ (L2.upd _ l3 _) := (Ext.refl.newQ (o := .lst ([.ref a0, .ref a1, .ref a2] ++ [.ref a3, .ref a4, .ref a5, .ref a6, .ref a7])) n3')
    have k29 := k28.trans k9
    exact q l3 _ ((k1.trans k28).none n3') ⟨a0, a1, a2, a3, a4, a5, a6, a7, upd_same, k29 _ _ y0, k29 _ _ y1, k29 _ _ y2, f3.ext (((((k4.trans k5).trans k6).trans k7).trans k8).trans k9), f4.ext ((((k5.trans k6).trans k7).trans k8).trans k9), f5.ext (((k6.trans k7).trans k8).trans k9), f6.ext ((k7.trans k8).trans k9), f7.ext (k8.trans k9)⟩ (k1.trans k29)
end
end Pd

set_option maxHeartbeats 4000000
namespace Pd
open PySem PySem.Spec PyProof.Rows L2 SX
/-! ### each of its class alone, and with the value -/
structure K9 (K : PySem.W.Frag) (C : C9) : Prop where
  p : KitA K C C.p none
  t : KitA K C C.t (some 0)
  d : KitA K C C.d (some 1)
  u : KitA K C C.u (some 2)
  s : KitA K C C.s (some 3)
  e : KitA K C C.e (some 4)
  f : KitA K C C.f (some 5)
  a : KitA K C C.a (some 6)
  l : KitA K C C.l (some 7)
theorem errs_item {P : Program} {w : World} {K : PySem.W.Frag} {mg : Str → Option Value} {base : Heap} {C : C9} {H : Hp} {l : Addr} {x : V} (W : E9 P w K mg base C) (Z : K9 K C) (h : ErrsAt C H l x) : ∃ xs : List V, H l = some (.lst xs) ∧ ∀ i : Nat, i < 8 → ∃ a D, atI xs (0 + (i : Int)) = some (.ref a) ∧ ErrAt H a D ∧ ExcC K D ∧ KitA K C D (some i) := by
  obtain ⟨a0, a1, a2, a3, a4, a5, a6, a7, e, h0, h1, h2, h3, h4, h5, h6, h7⟩ := h
  refine ⟨_, e, fun i hi => ?_⟩
  obtain rfl | rfl | rfl | rfl | rfl | rfl | rfl | rfl : i = 0 ∨ i = 1 ∨ i = 2 ∨ i = 3 ∨ i = 4 ∨ i = 5 ∨ i = 6 ∨ i = 7 := by omega
  · exact ⟨a0, C.t, rfl, .inl h0, W.t.e, Z.t⟩
  · exact ⟨a1, C.d, rfl, .inl h1, W.d.e, Z.d⟩
  · exact ⟨a2, C.u, rfl, .inl h2, W.u.e, Z.u⟩
  · exact ⟨a3, C.s, rfl, h3.at, W.s.e, Z.s⟩
  · exact ⟨a4, C.e, rfl, h4.at, W.e.e, Z.e⟩
  · exact ⟨a5, C.f, rfl, h5.at, W.f.e, Z.f⟩
  · exact ⟨a6, C.a, rfl, h6.at, W.a.e, Z.a⟩
  · exact ⟨a7, C.l, rfl, h7.at, W.l.e, Z.l⟩
theorem k_at {i k : Nat} : decide (V.int (0 + (k : Int)) = V.int (0 + (i : Int))) = kAt (some i) k := by
  unfold kAt
  rw [decide_eq_decide]
  constructor
  · intro h; injection h with h; exact congrArg some (by omega)
  · intro h; injection h with h; rw [h]
theorem bs_all {i : Nat} : (bsAt (some i)).map V.bl = [V.bl true, V.bl true] ++ (List.range 8).map fun k => V.bl (kAt (some i) k) := rfl
theorem bs_dp {K : PySem.W.Frag} {H : Hp} {l : Addr} {t : Option Nat} (h : H l = some (.lst ((bsAt t).map V.bl))) : ∃ d, Dp K H (.ref l) d ∧ SeqAt.shaped d = true ∧ d = .list ((bsAt t).map PyData.bool) := by
  refine ⟨_, .lst (SqL.of h) (.cons (.bl _) (.cons (.bl _) (.cons (.bl _) (.cons (.bl _) (.cons (.bl _) (.cons (.bl _) (.cons (.bl _) (.cons (.bl _) (.cons (.bl _) (.cons (.bl _) .nil)))))))))), rfl, rfl⟩
def spHolds (C : C9) : Sp := fun vs H Q _ => ∃ (l : Addr) (x : V), vs = [.ref l, x] ∧ ErrsAt C H l x ∧ Th H x ∧ ∀ H', Ext H H' → Q (.bl true) H'
section
variable {P : Program} {w : World} {K : PySem.W.Frag} {mg : Str → Option Value} {base : Heap}
theorem ok_holds {f : Addr} {fd : FuncData} {C : C9} (F : Fun K "_law_holds" "_law_holds" sLawHolds f fd) (T : Nms mg) (W : E9 P w K mg base C) (Z : K9 K C) (GC : Cl P w K mg base 1 "_law_classes" (spCls K C)) (GS : Cl P w K mg base 1 "_law_same" spSameQ) : FnOk P w K mg base CX0 2 f fd ["errors", "thing"] (spHolds C) := by
  refine F.ok scLawHolds (fun vs H Q E h => ?_) (fun cdv A outer s H vs Q E hr h => ?_)
  · obtain ⟨l, x, rfl, _⟩ := h
    rfl
  · obtain ⟨l, x, rfl, hE, hx, q⟩ := h
    have nd := scLawHolds.nd
    refine ⟨_, C8.pss_cut (ps_for PassesOwn.never rfl (pi_range1 rfl T.range (pa_cons pe_int pa_nil)) (pg_name (i := 2) nd rfl (Or.inr rfl))
        (pss_one (ps_if (pt_cmpR (op_neD hr.units) (pe_cl GC hr (by decide) rfl (pa_cons (pe_ix ix_list (pv 0) (pv 2) (fun _ _ => rfl)) pa_nil)) (pe_op op_cat (pe_lst (pa_cons pe_bl (pa_cons pe_bl pa_nil)))
            (pe_lc (own := [("k", 4)]) (g := gName 4) (tt := tYes) rfl nd (pi_range1 rfl T.range (pa_cons pe_int pa_nil)) (blkOk_by (N := ["errors", "thing", "at", "fields", "k", "field"]) (sc := defScope sLawHolds) (by decide +kernel)) (fun _ _ _ _ _ => pg_name (i := 4) nd rfl (Or.inl rfl)) (fun _ _ _ _ _ => pts_nil) (fun _ _ _ _ _ => pe_cmpR op_eq (pv 4) (pv 2) (nomark _)))) (nomark _))
          (pss_one (ps_ret pe_bl)) pss_nil)))
      (C8.pss_cut (ps_set (i := 3) nd rfl (Or.inl rfl) (pe_lst (pa_cons (pe_fldV (pe_ix ix_list (pv 0) pe_int (fun _ _ => rfl))) (pa_cons (pe_fldV (pe_ix ix_list (pv 0) pe_int (fun _ _ => rfl))) (pa_cons (pe_fldV (pe_ix ix_list (pv 0) pe_int (fun _ _ => rfl))) (pa_cons (pe_fldV (pe_ix ix_list (pv 0) pe_int (fun _ _ => rfl))) (pa_cons (pe_fldV (pe_ix ix_list (pv 0) pe_int (fun _ _ => rfl))) pa_nil)))))))
      (pss_one (ps_ret (pe_cmpR (op_eqD hr.units) (pe_lc (own := [("field", 5)]) (g := gName 5) rfl nd (pi_list (pv 3)) (blkOk_by (N := ["errors", "thing", "at", "fields", "k", "field"]) (sc := defScope sLawHolds) (by decide +kernel)) (fun _ _ _ _ _ => pg_name (i := 5) nd rfl (Or.inl rfl))
        (fun _ _ _ _ _ => pts_one (pt_not (pt_val (pe_cl GS hr (by decide) rfl (pa_cons (pv 5) (pa_cons (pv 1) pa_nil)))))) (fun _ _ _ _ _ => pv 5)) (pe_lst pa_nil) (nomark _))))), ?_⟩
    refine ⟨fun σ' H' => ∃ u2 : Option V, σ' = [some (.ref l), some x, u2, none, none, none] ∧ Ext H H', ?_, ?_⟩
    · refine ⟨8, rfl, by decide, by decide, for_range (lo := 0) (n := 8) (fun i σ H' => ∃ u2 : Option V, σ = [some (.ref l), some x, u2, none, none, none] ∧ Ext H H') ⟨none, rfl, .refl⟩ ?_ ?_⟩
      · rintro i σ H1 hi ⟨u2, rfl, k1⟩
        obtain ⟨xs, hl, it⟩ := errs_item W Z (hE.ext k1)
        obtain ⟨a, D, ea, hA, hC, hK⟩ := it i (by omega)
        refine ⟨_, rfl, _, rfl, l, xs, _, _, rfl, rfl, SqL.of hl, ea, a, D, some i, rfl, hA, hC, hK, fun l2 H2 n2 x2 k2 => ?_⟩
        refine ⟨by show 2 ≤ sizeLine; decide, fun l3 n3 => ?_⟩
        obtain ⟨H3, z3⟩ : ∃ H', H' = L2.upd H2 l3 (.lst [.bl true, .bl true]) := ⟨_, rfl⟩
        rw [← z3]
        have k3 : Ext H2 H3 := by rw [z3]; exact Ext.refl.new n3
        have x3 : H3 l3 = some (.lst [.bl true, .bl true]) := by rw [z3]; exact upd_same
        refine ⟨8, rfl, by decide, by decide, fun D1 hD => ?_⟩
        refine lc_it (walk_range (lo := 0) (n := 8)) (fun k H' => H' D1 = some (.lst ((List.range k).map fun k => V.bl (kAt (some i) k))) ∧ Ext H3 H') ⟨upd_same, Ext.refl.new hD⟩ (fun _ _ _ _ => trivial) ?_ ?_
        · rintro k y H4 H5 hk ⟨hD4, k4⟩ ⟨rfl, rfl⟩
          refine ⟨rfl, _, rfl, _, rfl, rfl, ?_⟩
          refine ⟨_, hD4, by rw [List.length_map, List.length_range, sizeLine_eq]; omega, ?_, k4.new hD⟩
          rw [upd_same, List.range_succ, List.map_append]
          show some (HO.lst (_ ++ [V.bl (decide (V.int (0 + (k : Int)) = V.int (0 + (i : Int))))])) = _
          rw [k_at]; rfl
        · rintro H4 ⟨hD4, k4⟩
          refine ⟨l3, D1, _, _, rfl, rfl, k4 _ _ x3, hD4, by rw [List.length_map, List.length_range]; show 2 + 8 ≤ sizeLine; decide, fun l4 n4 => ?_⟩
          rw [← bs_all]
          have k5 : Ext H4 (L2.upd H4 l4 (.lst ((bsAt (some i)).map V.bl))) := Ext.refl.new n4
          obtain ⟨d1, p1, s1, e1⟩ := bs_dp (K := K) (k5 _ _ (k4 _ _ (k3 _ _ x2)))
          obtain ⟨d2, p2, s2, e2⟩ := bs_dp (K := K) (H := L2.upd H4 l4 (.lst ((bsAt (some i)).map V.bl))) (l := l4) (t := some i) upd_same
          refine ⟨d1, d2, p1, p2, s1, s2, ?_⟩
          rw [e1, ← e2, eqv_self s2]
          exact ⟨_, rfl, iteF ⟨_, rfl, (((k1.trans k2).trans k3).trans k4).trans k5⟩⟩
      · rintro σ H1 ⟨u2, rfl, k1⟩
        exact ⟨u2, rfl, k1⟩
    rintro σ1 H1 ⟨u2, rfl, k1⟩
    obtain ⟨a0, a1, a2, a3, a4, a5, a6, a7, e, h0, h1, h2, ⟨d3, g3, f3⟩, ⟨d4, g4, f4⟩, ⟨d5, g5, f5⟩, ⟨d6, g6, f6⟩, ⟨d7, g7, f7⟩⟩ := hE.ext k1
    refine ⟨fun σ' H' => ∃ fl, σ' = [some (.ref l), some x, u2, some (.ref fl), none, none] ∧ H' fl = some (.lst [x, x, x, x, x]) ∧ Ext H H', ?_, ?_⟩
    · refine ⟨_, rfl, l, _, 3, _, rfl, rfl, SqL.of e, rfl, a3, C.s, d3, _, x, rfl, g3, f3, rfl, W.s.f, W.s.no, ?_⟩
      refine ⟨_, rfl, l, _, 4, _, rfl, rfl, SqL.of e, rfl, a4, C.e, d4, _, x, rfl, g4, f4, rfl, W.e.f, W.e.no, ?_⟩
      refine ⟨_, rfl, l, _, 5, _, rfl, rfl, SqL.of e, rfl, a5, C.f, d5, _, x, rfl, g5, f5, rfl, W.f.f, W.f.no, ?_⟩
      refine ⟨_, rfl, l, _, 6, _, rfl, rfl, SqL.of e, rfl, a6, C.a, d6, _, x, rfl, g6, f6, rfl, W.a.f, W.a.no, ?_⟩
      refine ⟨_, rfl, l, _, 7, _, rfl, rfl, SqL.of e, rfl, a7, C.l, d7, _, x, rfl, g7, f7, rfl, W.l.f, W.l.no, ?_⟩
      exact ⟨by show 5 ≤ sizeLine; decide, fun fl nf => ⟨fl, rfl, upd_same, k1.newQ nf⟩⟩
    rintro σ2 H2 ⟨fl, rfl, x2, k2⟩
    refine ⟨_, rfl, fl, rfl, ⟨_, SqL.of x2⟩, fun D1 hD => ?_⟩
    refine lc_it (walk_list (xs := [x, x, x, x, x])) (fun k H' => H' D1 = some (.lst []) ∧ Ext H2 H') ⟨upd_same, Ext.refl.new hD⟩ (fun i H' _ z => SqL.of (z.2 fl _ x2)) ?_ ?_
    · rintro i y H3 H4 hi ⟨hD3, k3⟩ ⟨rfl, hy⟩
      have ey : y = x := by
        have := List.mem_of_getElem? hy
        simpa using this
      subst ey
      refine ⟨rfl, _, rfl, _, rfl, _, rfl, (hx.ext k2).ext k3, ?_⟩
      exact ⟨true, rfl, iteF ⟨hD3, k3⟩⟩
    · rintro H3 ⟨hD3, k3⟩
      refine ⟨by show 0 ≤ sizeLine; decide, fun l4 n4 => ?_⟩
      have k4 : Ext H3 (L2.upd H3 l4 (.lst [])) := Ext.refl.new n4
      exact ⟨.list [], .list [], .lst (SqL.of (k4 _ _ hD3)) .nil, .lst (SqL.of upd_same) .nil, rfl, rfl, q _ ((k2.trans k3).trans k4)⟩
end
end Pd

set_option maxHeartbeats 4000000
namespace Pd
open PySem PySem.Spec PyProof.Rows L2 SX
/-! ### the law -/
def spLaw (K : PySem.W.Frag) : Sp := fun vs H Q _ => ∃ (a : Addr) (ns : List Int), vs = [.ref a] ∧ SqL K H a (ns.map V.int) ∧ ns.length ≤ 63 ∧ ∀ H', Q (.bl true) H'
theorem keepQ {K : PySem.W.Frag} {H H' : Hp} {a : Addr} {xs : List V} (h : SqL K H a xs) (k : ∀ o, H a = some o → H' a = some o) : SqL K H' a xs := by
  rcases h with (h | ⟨o, h⟩) | h
  · exact .inl (.inl (k _ h))
  · exact .inl (.inr ⟨o, k _ h⟩)
  · exact .inr h
theorem ext_kpQ {j : Addr} {H1 H2 H3 : Hp} (a : Ext H1 H2) (b : Kp j H2 H3) (n : H1 j = none) : Ext H1 H3 := fun c o e => b c o (by rintro rfl; rw [e] at n; cases n) (a c o e)
/-- an entry of held: the errors and their value, whatever else is laid -/
def EntQ (C : C9) (H : Hp) (h p : Addr) : Prop := ∃ (l : Addr) (x : V), H p = some (.tup [.ref l, x]) ∧ ∀ H2, Kp h H H2 → ErrsAt C H2 l x ∧ Th H2 x
theorem EntQ.kp {C : C9} {H H' : Hp} {h p : Addr} (e : EntQ C H h p) (k : Kp h H H') (n : p ≠ h) : EntQ C H' h p := by
  obtain ⟨l, x, e, q⟩ := e
  exact ⟨l, x, k p _ n e, fun H2 k2 => q H2 (k.trans k2)⟩
def HldQ (C : C9) (H : Hp) (h : Addr) (ps : List Addr) : Prop := H h = some (.lst (ps.map V.ref)) ∧ ∀ p ∈ ps, p ≠ h ∧ EntQ C H h p
theorem HldQ.ext {C : C9} {H H' : Hp} {h : Addr} {ps : List Addr} (e : HldQ C H h ps) (k : Ext H H') : HldQ C H' h ps := ⟨k _ _ e.1, fun p hp => ⟨(e.2 p hp).1, (e.2 p hp).2.kp k.kp (e.2 p hp).1⟩⟩
theorem ExO_lst {c : Value} {a : Addr} {ys : List V} : ExO c a ≠ .lst ys := fun z => by
  have z' : HO.ext _ = HO.lst ys := z
  cases z'
theorem exo_lst {e C : Addr} {d : Option Addr} {ys : List V} : exo e C d ≠ .lst ys := fun z => by
  have z' : HO.ext _ = HO.lst ys := z
  cases z'
theorem exd_lst {e : Addr} {fs : List (Str × V)} {ys : List V} : exd e fs ≠ .lst ys := fun z => by
  have z' : HO.ext _ = HO.lst ys := z
  cases z'
theorem ne_lstQ {H : Hp} {a b : Addr} {o : HO} {ys : List V} (e : H a = some o) (h : H b = some (.lst ys)) (n : o ≠ .lst ys) : a ≠ b := by
  rintro rfl
  rw [e] at h
  exact n (Option.some.inj h)
theorem ErF.kp {H H' : Hp} {a b C : Addr} {n : Str} {v : V} {ys : List V} (h : ErF H a C n v) (k : Kp b H H') (hb : H b = some (.lst ys)) : ErF H' a C n v := by
  obtain ⟨d, h1, h2⟩ := h
  exact ⟨d, k _ _ (ne_lstQ h1 hb exo_lst) h1, k _ _ (ne_lstQ h2 hb exd_lst) h2⟩
theorem ErrsAt.kp {C : C9} {H H' : Hp} {l b : Addr} {x : V} {ys : List V} (h : ErrsAt C H l x) (k : Kp b H H') (hb : H b = some (.lst ys)) (n : l ≠ b) : ErrsAt C H' l x := by
  obtain ⟨a0, a1, a2, a3, a4, a5, a6, a7, e, h0, h1, h2, h3, h4, h5, h6, h7⟩ := h
  exact ⟨a0, a1, a2, a3, a4, a5, a6, a7, k _ _ n e, k _ _ (ne_lstQ h0 hb ExO_lst) h0, k _ _ (ne_lstQ h1 hb ExO_lst) h1, k _ _ (ne_lstQ h2 hb ExO_lst) h2, h3.kp k hb, h4.kp k hb, h5.kp k hb, h6.kp k hb, h7.kp k hb⟩
theorem Th.kp {H H' : Hp} {b : Addr} {x : V} {ys : List V} (h : Th H x) (k : Kp b H H') (hb : H b = some (.lst ys)) : Th H' x := by
  cases h with
  | int i => exact .int i
  | bl b => exact .bl b
  | str s h => exact .str s h
  | non => exact .non
  | tup h z => exact .tup (k _ _ (ne_lstQ h hb (fun z => by cases z)) h) z
def LTW : List Nat := [97, 98, 99, 32, 46, 88, 89, 90]
theorem ltw_S : ("abc .XYZ" : Str) = S LTW := by decide +kernel
section
variable {P : Program} {w : World} {K : PySem.W.Frag} {mg : Str → Option Value} {base : Heap}
theorem ok_law {f : Addr} {fd : FuncData} {C : C9} (F : Fun K "law" "law" sLaw f fd) (T : Nms mg) (W : E9 P w K mg base C) (Z : K9 K C) (Gj : Cl P w K mg base 1 "_law_jar" (spJar K)) (D : Cl P w K mg base 1 "_law_draw" spDraw) (GT : Cl P w K mg base 2 "_law_thing" spThing) (GC : Cl P w K mg base 1 "_law_classes" (spCls K C))
    (GE : Cl P w K mg base 3 "_law_errors" (spErrs C)) (GH : Cl P w K mg base 2 "_law_holds" (spHolds C)) : FnOk P w K mg base CX0 4 f fd ["script"] (spLaw K) := by
  refine F.ok scLaw (fun vs H Q E h => ?_) (fun cdv A outer s H vs Q E hr h => ?_)
  · obtain ⟨a, ns, rfl, _⟩ := h
    rfl
  · obtain ⟨a, ns, rfl, hS, hlen, q⟩ := h
    have nd := scLaw.nd
    refine ⟨_, C8.pss_cut (ps_set (i := 1) nd rfl (Or.inl rfl) (pe_lst pa_nil))
      (pss_cons (ps_for PassesOwn.never rfl (pi_range1 rfl T.range (pa_cons (pe_callB (call_max2 rfl) (by rfl) T.max (by decide +kernel) (pa_cons pe_int (pa_cons (pe_callB (call_min2 rfl) (by rfl) T.min (by decide +kernel) (pa_cons pe_int (pa_cons (pe_callB call_len_seq (by rfl) T.len PySem.boot_len (pa_cons (pv 0) pa_nil)) pa_nil))) pa_nil))) pa_nil)) (pg_name (i := 2) nd rfl (Or.inl rfl))
        (pss_cons (ps_set (i := 3) nd rfl (Or.inr rfl) (pe_cl Gj hr (by decide) rfl (pa_cons (pv 0) (pa_cons (pv 2) pa_nil))))
        (C8.pss_cut (ps_set (i := 4) nd rfl (Or.inl rfl) (pe_join pe_str (pe_lc (own := [("j", 8)]) (g := gName 8) (tt := tYes) rfl nd (pi_range1 rfl T.range (pa_cons (pe_cl D hr (by decide) rfl (pa_cons (pv 3) (pa_cons pe_int pa_nil))) pa_nil)) (blkOk_by (N := ["script", "held", "k", "jar", "word", "thing", "errors", "due", "j"]) (sc := defScope sLaw) (by decide +kernel)) (fun _ _ _ _ _ => pg_name (i := 8) nd rfl (Or.inl rfl)) (fun _ _ _ _ _ => pts_nil)
          (fun _ _ _ _ _ => pe_ix ix_str pe_str (pe_cl D hr (by decide) rfl (pa_cons (pv 3) (pa_cons pe_int pa_nil))) (fun _ _ => rfl)))))
        (C8.pss_cut (ps_if (pt_cmpR (op_neD hr.units) (pe_cl GC hr (by decide) rfl (pa_cons (pe_exc1 PySem.F.excBase_ValueError W.p.xi W.p.g W.p.k rfl (pv 4)) pa_nil)) (pe_op op_cat (pe_lst (pa_cons pe_bl (pa_cons pe_bl pa_nil))) (pe_op op_rep (pe_lst (pa_cons pe_bl pa_nil)) pe_int)) (nomark _)) (pss_one (ps_ret pe_bl)) pss_nil)
        (C8.pss_cut (ps_set (i := 5) nd rfl (Or.inl rfl) (pe_cl GT hr (by decide) rfl (pa_cons (pv 3) pa_nil)))
        (C8.pss_cut (ps_expr (pe_bm PySem.F.plainAttrs_list PySem.F.slot_list_append PySem.F.type_list_append mt_append (pv 1) (pa_cons (pe_tup (pa_cons (pe_cl GE hr (by decide) rfl (pa_cons (pv 4) (pa_cons (pv 5) (pa_cons (pe_cmpR op_eq (pe_cl D hr (by decide) rfl (pa_cons (pv 3) (pa_cons pe_int pa_nil))) pe_int (nomark _)) pa_nil)))) (pa_cons (pv 5) pa_nil))) pa_nil)))
        (pss_one (ps_for PassesOwn.never rfl (pi_list (pv 1)) (pg_tup (by rfl) (pgs_cons (pg_name (i := 6) nd rfl (Or.inl rfl)) (pgs_cons (pg_name (i := 7) nd rfl (Or.inl rfl)) pgs_nil)))
          (pss_one (ps_if (pt_not (pt_val (pe_cl GH hr (by decide) rfl (pa_cons (pv 6) (pa_cons (pv 7) pa_nil))))) (pss_one (ps_ret pe_bl)) pss_nil))))))))))
      (pss_one (ps_ret pe_bl))), ?_⟩
    refine ⟨fun σ' H' => ∃ h, σ' = [some (.ref a), some (.ref h), none, none, none, none, none, none, none] ∧ H h = none ∧ H' = L2.upd H h (.lst []), ?_, ?_⟩
    · exact ⟨by show 0 ≤ sizeLine; decide, fun h hh => ⟨h, rfl, hh, rfl⟩⟩
    rintro σ1 H1 ⟨h, rfl, hh, rfl⟩
    have aK : ∀ {H' : Hp}, Kp h (L2.upd H h (.lst [])) H' → SqL K H' a (ns.map V.int) := fun k => keepQ hS fun o e => k a o (by rintro rfl; rw [e] at hh; cases hh) (by rw [upd_ne (ne_of_none e hh)]; exact e)
    have hhB : (L2.upd H h (.lst [])) h = some (.lst []) := upd_same
    generalize L2.upd H h (.lst []) = HB at aK hhB
    refine ⟨_, rfl, a, _, rfl, .inl (aK .refl), _, _, rfl, _, _, rfl, ?_⟩
    rw [List.length_map]
    generalize hz : (if (if ((ns.length : Nat) : Int) < 8 then ((ns.length : Nat) : Int) else 8) > 1 then (if ((ns.length : Nat) : Int) < 8 then ((ns.length : Nat) : Int) else 8) else 1) = z
    have hz0 : 1 ≤ z := by rw [← hz]; split <;> omega
    have hz1 : z ≤ 8 := by rw [← hz]; split <;> split <;> omega
    refine ⟨z, rfl, by omega, by omega, ?_⟩
    refine for_range (lo := 0) (n := z.toNat) (fun i σ H' => ∃ (ps : List Addr) (u2 u3 u4 u5 u6 u7 : Option V), σ = [some (.ref a), some (.ref h), u2, u3, u4, u5, u6, u7, none] ∧ HldQ C H' h ps ∧ ps.length ≤ i ∧ Kp h HB H')
      ⟨[], none, none, none, none, none, none, rfl, ⟨hhB, fun _ x => nomatch x⟩, Nat.le_refl _, .refl⟩ ?_ ?_
    · rintro i σ H1 hi ⟨ps, u2, u3, u4, u5, u6, u7, rfl, hH1, hle, k1⟩
      refine ⟨_, rfl, _, rfl, a, ns, 0 + (i : Nat), rfl, aK k1, hlen, by omega, by omega, fun j H2 nj J2 k2 => ?_⟩
      refine ⟨fun σ' H' => ∃ s : Str, σ' = [some (.ref a), some (.ref h), some (.int (0 + (i : Nat))), some (.ref j), some (.str s), u5, u6, u7, none] ∧ JarAt H' j 20 ∧ Kp j H2 H', ?_, ?_⟩
      · refine ⟨⟨_, rfl⟩, _, rfl, j, 12, 0, rfl, J2, by omega, by decide, by decide, fun r H3 h0 h1 J3 k3 => ⟨_, rfl, by omega, by omega, fun D1 hD => ?_⟩⟩
        obtain ⟨xs3, hx3⟩ := J3.lst
        have nDj : D1 ≠ j := fun e => by rw [e, hx3] at hD; cases hD
        have n3 : ∀ b o, b ≠ j → H2 b = some o → b ≠ D1 := fun b o nb e => ne_of_none (k3 b o nb e) hD
        refine lc_it (walk_range (lo := 0) (n := r.toNat)) (fun i H' => ∃ m : List Nat, H' D1 = some (.lst ((m.map sg).map V.str)) ∧ m.length = i ∧ JarAt H' j (1 + i) ∧ Kp j H2 H')
          ⟨[], upd_same, rfl, (J3.le (by omega)).new hD, k3.new hD⟩ (fun _ _ _ _ => trivial) ?_ ?_
        · rintro t x H4 H5 ht ⟨m, hD4, hl, J4, k4⟩ ⟨rfl, rfl⟩
          refine ⟨rfl, _, rfl, j, 8, _, rfl, J4, by omega, by decide, by decide, fun r5 H5 h05 h15 J5 k5 => ?_⟩
          have hc : r5.toNat < LTW.length := by show r5.toNat < 8; omega
          refine ⟨_, r5, LTW[r5.toNat], rfl, rfl, by rw [ltw_S, S_len, sizeLine_eq]; decide, ?_, ?_⟩
          · rw [ltw_S]
            have e : ((r5.toNat : Nat) : Int) = r5 := by omega
            have z : atI (S LTW).cps.toList ((r5.toNat : Nat) : Int) = some LTW[r5.toNat] := atI_nat (List.getElem?_eq_getElem hc)
            rw [e] at z
            exact z
          have hD5 : H5 D1 = some (.lst ((m.map sg).map V.str)) := k5 D1 _ nDj hD4
          refine ⟨_, hD5, by rw [List.length_map, List.length_map, hl, sizeLine_eq]; omega, m ++ [LTW[r5.toNat]], ?_, by rw [List.length_append, hl]; rfl, ?_, ?_⟩
          · rw [upd_same, List.map_append, List.map_append]; rfl
          · obtain ⟨a', b', c', e1, e2⟩ := J5.le (show 1 + t + 1 ≤ 1 + (t + 1) by omega)
            exact ⟨a', b', c', by rw [upd_ne nDj.symm]; exact e1, e2⟩
          · intro b o nb hb
            rw [upd_ne (n3 b o nb hb)]; exact (k4.trans k5) b o nb hb
        · rintro H4 ⟨m, hD4, hl, J4, k4⟩
          refine ⟨_, D1, m.map sg, rfl, rfl, .inl (SqL.of hD4), ?_, ?_⟩
          · rw [sum_sg, List.length_map]
            show m.length + m.length * 0 ≤ 16777216
            omega
          rw [join_sg]
          exact ⟨_, rfl, J4.le (by omega), k4⟩
      rintro σ3 H3 ⟨s, rfl, J3, k3⟩
      have e13 : Ext H1 H3 := ext_kpQ k2 k3 nj
      refine ⟨fun σ' H' => σ' = [some (.ref a), some (.ref h), some (.int (0 + (i : Nat))), some (.ref j), some (.str s), u5, u6, u7, none] ∧ Ext H3 H', ?_, ?_⟩
      · refine ⟨_, rfl, fun o no => ?_⟩
        obtain ⟨H4, z4⟩ : ∃ H', H' = L2.upd H3 o (ExO (.ref C.p) o) := ⟨_, rfl⟩
        rw [← z4]
        have k4 : Ext H3 H4 := by rw [z4]; exact Ext.refl.new no
        have x4 : H4 o = some (ExO (.ref C.p) o) := by rw [z4]; exact upd_same
        refine ⟨o, C.p, none, rfl, .inl x4, W.p.e, Z.p, fun l2 H5 n2 x2 k5 => ?_⟩
        refine ⟨by show 2 ≤ sizeLine; decide, fun l3 n3 => ?_⟩
        obtain ⟨H6, z6⟩ : ∃ H', H' = L2.upd H5 l3 (.lst [.bl true, .bl true]) := ⟨_, rfl⟩
        rw [← z6]
        have k6 : Ext H5 H6 := by rw [z6]; exact Ext.refl.new n3
        have x6 : H6 l3 = some (.lst [.bl true, .bl true]) := by rw [z6]; exact upd_same
        refine ⟨by show 1 ≤ sizeLine; decide, fun l4 n4 => ?_⟩
        have k7 : Ext H6 (L2.upd H6 l4 (.lst [.bl false])) := Ext.refl.new n4
        refine ⟨l4, 8, _, rfl, rfl, upd_same, by decide, by decide, by show 1 * 8 ≤ sizeLine; decide, fun l5 n5 => ?_⟩
        have k8 : Ext _ (L2.upd _ l5 _) := (Ext.refl.newQ (o := .lst (List.replicate (Int.toNat 8) [V.bl false]).flatten) n5)
        have k68 := k7.trans k8
        refine ⟨l3, l5, _, _, rfl, rfl, k68 _ _ x6, upd_same, by show 2 + 8 ≤ sizeLine; decide, fun l6 n6 => ?_⟩
        have k9 : Ext _ (L2.upd _ l6 _) := (Ext.refl.newQ (o := .lst ([V.bl true, V.bl true] ++ (List.replicate (Int.toNat 8) [V.bl false]).flatten)) n6)
        have eb : [V.bl true, V.bl true] ++ (List.replicate (Int.toNat 8) [V.bl false]).flatten = (bsAt none).map V.bl := rfl
        obtain ⟨d1, p1, s1, e1⟩ := bs_dp (K := K) ((k68.trans k9) _ _ (k6 _ _ x2))
        obtain ⟨d2, p2, s2, e2⟩ := bs_dp (K := K) (l := l6) (t := none) (show (L2.upd _ l6 (.lst ([V.bl true, V.bl true] ++ (List.replicate (Int.toNat 8) [V.bl false]).flatten))) l6 = some (.lst ((bsAt none).map V.bl)) from upd_same)
        refine ⟨d1, d2, p1, p2, s1, s2, ?_⟩
        rw [e1, ← e2, eqv_self s2]
        exact ⟨_, rfl, iteF ⟨rfl, ((k4.trans k5).trans k6).trans (k68.trans k9)⟩⟩
      rintro σ4 H4 ⟨rfl, k4⟩
      have e14 := e13.trans k4
      refine ⟨fun σ' H' => ∃ x, σ' = [some (.ref a), some (.ref h), some (.int (0 + (i : Nat))), some (.ref j), some (.str s), some x, u6, u7, none] ∧ (∀ H2, Kp j H' H2 → Th H2 x) ∧ JarAt H' j 60 ∧ Kp j H4 H', ?_, ?_⟩
      · exact ⟨_, rfl, j, 20, rfl, J3.extQ k4, by omega, fun x H5 hx J5 k5 => ⟨x, rfl, hx, J5.le (by omega), k5⟩⟩
      rintro σ5 H5 ⟨x, rfl, hx, J5, k5⟩
      have e15 := ext_kpQ e14 k5 nj
      have hps := (hH1.ext e15).1
      refine ⟨fun σ' H' => σ' = [some (.ref a), some (.ref h), some (.int (0 + (i : Nat))), some (.ref j), some (.str s), some x, u6, u7, none] ∧ ∃ p, HldQ C H' h (ps ++ [p]) ∧ Kp h H1 H', ?_, ?_⟩
      · refine ⟨_, rfl, .inl ⟨rfl, _, SqL.of hps⟩, _, rfl, _, rfl, _, rfl, j, 2, _, rfl, J5, by omega, by decide, by decide, fun r H6 h0 h1 J6 k6 => ⟨rfl, s, x, _, rfl, fun l H7 nl hE k7 => ⟨_, rfl, by show 2 ≤ sizeLine; decide, fun p hp => ?_⟩⟩⟩
        have e16 := ext_kpQ e15 k6 nj
        have e17 := e16.trans k7
        have nph : h ≠ p := ne_of_none (e17 _ _ hH1.1) hp
        refine ⟨h, _, _, rfl, rfl, by rw [upd_ne nph]; exact e17 _ _ hH1.1, by rw [List.length_map, sizeLine_eq]; omega, rfl, p, ?_⟩
        have kh : Kp h H1 (L2.upd (L2.upd H7 p (.tup [.ref l, x])) h (.lst (ps.map V.ref ++ [V.ref p]))) := fun b ob nb e => by
          rw [upd_ne nb, upd_ne (ne_of_none (e17 b ob e) hp)]; exact e17 b ob e
        refine ⟨⟨by rw [upd_same, List.map_append]; rfl, fun p' hp' => ?_⟩, kh⟩
        rcases List.mem_append.mp hp' with hm | hm
        · exact ⟨(hH1.2 p' hm).1, (hH1.2 p' hm).2.kp kh (hH1.2 p' hm).1⟩
        · rw [List.mem_singleton.mp hm]
          refine ⟨nph.symm, l, x, by rw [upd_ne nph.symm, upd_same], fun Hz kz => ?_⟩
          have k7z : Kp h H7 Hz := fun b o nb e => kz b o nb (by rw [upd_ne nb, upd_ne (ne_of_none e hp)]; exact e)
          have nlh : l ≠ h := (ne_of_none (e16 _ _ hH1.1) nl).symm
          exact ⟨hE.kp k7z (e17 _ _ hH1.1) nlh, (hx H7 (k6.trans k7.kp)).kp k7z (e17 _ _ hH1.1)⟩
      rintro σ6 H6 ⟨rfl, p, hH6, k6⟩
      refine ⟨_, rfl, h, rfl, ⟨_, SqL.of hH6.1⟩, for_it (walk_list (xs := (ps ++ [p]).map V.ref)) (fun t σ H' => ∃ v6 v7, σ = [some (.ref a), some (.ref h), some (.int (0 + (i : Nat))), some (.ref j), some (.str s), some x, v6, v7, none] ∧ Ext H6 H') ⟨u6, u7, rfl, .refl⟩ (fun t σ H' _ z => by
        obtain ⟨_, _, _, k⟩ := z
        exact SqL.of (k h _ hH6.1)) ?_ ?_⟩
      · rintro t y σ H7 H8 hi' ⟨v6, v7, rfl, k7⟩ ⟨rfl, hy⟩
        obtain ⟨p', hp', rfl⟩ := List.mem_map.mp (List.mem_of_getElem? hy)
        obtain ⟨ne, l, y, ey, qy⟩ := hH6.2 p' hp'
        obtain ⟨hE, hT⟩ := qy _ k7.kp
        refine ⟨p', _, rfl, SqT.of (k7 p' _ ey), rfl, _, _, rfl, _, _, rfl, rfl, ?_⟩
        exact ⟨_, rfl, _, rfl, l, y, rfl, hE, hT, fun H9 k9 => ⟨true, rfl, iteF ⟨_, _, rfl, k7.trans k9⟩⟩⟩
      · rintro σ H7 ⟨v6, v7, rfl, k7⟩
        exact ⟨ps ++ [p], _, _, _, _, _, _, rfl, hH6.ext k7, by rw [List.length_append]; simp only [List.length_cons, List.length_nil]; omega, k1.trans (k6.trans k7.kp)⟩
    · rintro σ H1 ⟨ps, u2, u3, u4, u5, u6, u7, rfl, hH1, hle, k1⟩
      exact q H1
end
end Pd

set_option maxHeartbeats 4000000
namespace Pd
open PySem PySem.Spec PyProof.Rows L2 SX
theorem kit_me {K : PySem.W.Frag} {C : Addr} : PySem.W.kitOne K (.ref C) (.ref C) = some true := by unfold PySem.W.kitOne; rw [if_pos (beq_self_eq_true _)]
theorem kit_ty_ref {K : PySem.W.Frag} {C : Addr} {b : Bool} (s : PySem.W.subIn K (.ref C) (.type "ValueError") = some b) : PySem.W.kitOne K (.ref C) (.type "ValueError") = some b := by
  have e : PySem.W.kitMeta "ValueError" = true := by decide +kernel
  unfold PySem.W.kitOne
  rw [if_neg (by intro h; exact absurd (beq_iff_eq.mp h) (by intro h; cases h))]
  show (if PySem.W.kitMeta "ValueError" = true then PySem.W.subIn K (.ref C) (.type "ValueError") else none) = some b
  rw [if_pos e]
  exact s
theorem kit_ref_no {K : PySem.W.Frag} {C D : Addr} (i : PySem.W.isClsIn K D = true) (t : PySem.W.typeIn K (.ref D) = some (.type "type")) (s : PySem.W.subIn K (.ref C) (.ref D) = some false) (s' : PySem.W.subIn K (.ref C) (.ref C) = some true) : PySem.W.kitOne K (.ref C) (.ref D) = some false := by
  have e : (PySem.W.clsIn K D).isSome = true := i
  have n : ¬ ((Value.ref C == Value.ref D) = true) := by
    intro h
    have h := beq_iff_eq.mp h
    rw [← h, s'] at s
    cases s
  unfold PySem.W.kitOne
  rw [if_neg n]
  simp [PySem.W.kitCls, t, e, s]
theorem kit_ref_yes {K : PySem.W.Frag} {C D : Addr} (i : PySem.W.isClsIn K D = true) (t : PySem.W.typeIn K (.ref D) = some (.type "type")) (s : PySem.W.subIn K (.ref C) (.ref D) = some true) : PySem.W.kitOne K (.ref C) (.ref D) = some true := by
  have e : (PySem.W.clsIn K D).isSome = true := i
  unfold PySem.W.kitOne
  by_cases n : (Value.ref C == Value.ref D) = true
  · rw [if_pos n]
  · rw [if_neg n]
    simp [PySem.W.kitCls, t, e, s]
end Pd

set_option maxHeartbeats 4000000
namespace Pd
open PySem PySem.Spec PyProof.Rows L2 SX
theorem all_mk {l : PySem.W.OpenLaw} {w : World} {K : PySem.W.Frag} {h : Heap} {mg : Str → Option Value} {fa CP CT CD CU CS CE CF CA CL f0 f1 f2 f3 f4 f5 f6 f7 g0 g1 g2 g3 g4 : Addr} (X : K.In h) (G : h.Ns mainGlobals mg) (hfa : mg "law" = some (.ref fa))
    {od0 an0 od1 an1 od2 an2 od3 an3 od4 an4 od5 an5 od6 an6 od7 an7 od_0 an_0 od_1 an_1 od_2 an_2 od_3 an_3 od_4 an_4 : Option Addr} {sl0 sl1 sl2 sl3 sl4 sl5 sl6 sl7 sl_0 sl_1 sl_2 sl_3 sl_4 : Array (Option Value)} {oc0 kV0 dc0 pm0 cd0 ct0 oc1 kV1 dc1 pm1 cd1 ct1 oc2 kV2 dc2 pm2 cd2 ct2 oc3 kV3 dc3 pm3 cd3 ct3 oc4 kV4 dc4 pm4 cd4 ct4 oc5 kV5 dc5 pm5 cd5 ct5 oc6 kV6 dc6 pm6 cd6 ct6 oc7 kV7 dc7 pm7 cd7 ct7 oc_0 kV_0 dc_0 pm_0 cd_0 ct_0 oc_1 kV_1 dc_1 pm_1 cd_1 ct_1 oc_2 kV_2 dc_2 pm_2 cd_2 ct_2 oc_3 kV_3 dc_3 pm_3 cd_3 ct_3 oc_4 kV_4 dc_4 pm_4 cd_4 ct_4 : Value}    {nmS qnS : Str} {NNS : Addr} {bsS bmS subS : List Value} {snS : List Str} {abS : Bool} {colS : Option Bool} {ddS : Option Addr} {q0S q1S q2S q3S q5S : Option Value} {nmE qnE : Str} {NNE : Addr} {bsE bmE subE : List Value} {snE : List Str} {abE : Bool} {colE : Option Bool} {ddE : Option Addr} {q0E q1E q2E q3E q5E : Option Value} {nmF qnF : Str} {NNF : Addr} {bsF bmF subF : List Value} {snF : List Str} {abF : Bool} {colF : Option Bool} {ddF : Option Addr} {q0F q1F q2F q3F q5F : Option Value} {nmA qnA : Str} {NNA : Addr} {bsA bmA subA : List Value} {snA : List Str} {abA : Bool} {colA : Option Bool} {ddA : Option Addr} {q0A q1A q2A q3A q5A : Option Value} {nmL qnL : Str} {NNL : Addr} {bsL bmL subL : List Value} {snL : List Str} {abL : Bool} {colL : Option Bool} {ddL : Option Addr} {q0L q1L q2L q3L q5L : Option Value}
    (a0 : PySem.W.nsIn K mainGlobals "_law_jar" = some (some (.ref f0)))
    (l0 : K.lookup f0 = some ⟨oc0, od0, .func (PySem.W.fnOf "_law_jar" "_law_jar" (defArgs sLawJar) (defBody sLawJar) (defScope sLawJar) .none kV0 dc0 pm0 an0 cd0 ct0), sl0⟩)
    (c0 : PySem.W.codeIn K cd0 "_law_jar" = true)
    (k0 : PySem.W.keepIn K (.ref f0) = true)
    (a1 : PySem.W.nsIn K mainGlobals "_law_draw" = some (some (.ref f1)))
    (l1 : K.lookup f1 = some ⟨oc1, od1, .func (PySem.W.fnOf "_law_draw" "_law_draw" (defArgs sLawDraw) (defBody sLawDraw) (defScope sLawDraw) .none kV1 dc1 pm1 an1 cd1 ct1), sl1⟩)
    (c1 : PySem.W.codeIn K cd1 "_law_draw" = true)
    (k1 : PySem.W.keepIn K (.ref f1) = true)
    (a2 : PySem.W.nsIn K mainGlobals "_law_thing" = some (some (.ref f2)))
    (l2 : K.lookup f2 = some ⟨oc2, od2, .func (PySem.W.fnOf "_law_thing" "_law_thing" (defArgs sLawThing) (defBody sLawThing) (defScope sLawThing) .none kV2 dc2 pm2 an2 cd2 ct2), sl2⟩)
    (c2 : PySem.W.codeIn K cd2 "_law_thing" = true)
    (k2 : PySem.W.keepIn K (.ref f2) = true)
    (a3 : PySem.W.nsIn K mainGlobals "_law_same" = some (some (.ref f3)))
    (l3 : K.lookup f3 = some ⟨oc3, od3, .func (PySem.W.fnOf "_law_same" "_law_same" (defArgs sLawSame) (defBody sLawSame) (defScope sLawSame) .none kV3 dc3 pm3 an3 cd3 ct3), sl3⟩)
    (c3 : PySem.W.codeIn K cd3 "_law_same" = true)
    (k3 : PySem.W.keepIn K (.ref f3) = true)
    (a4 : PySem.W.nsIn K mainGlobals "_law_classes" = some (some (.ref f4)))
    (l4 : K.lookup f4 = some ⟨oc4, od4, .func (PySem.W.fnOf "_law_classes" "_law_classes" (defArgs sLawClasses) (defBody sLawClasses) (defScope sLawClasses) .none kV4 dc4 pm4 an4 cd4 ct4), sl4⟩)
    (c4 : PySem.W.codeIn K cd4 "_law_classes" = true)
    (k4 : PySem.W.keepIn K (.ref f4) = true)
    (a5 : PySem.W.nsIn K mainGlobals "_law_errors" = some (some (.ref f5)))
    (l5 : K.lookup f5 = some ⟨oc5, od5, .func (PySem.W.fnOf "_law_errors" "_law_errors" (defArgs sLawErrors) (defBody sLawErrors) (defScope sLawErrors) .none kV5 dc5 pm5 an5 cd5 ct5), sl5⟩)
    (c5 : PySem.W.codeIn K cd5 "_law_errors" = true)
    (k5 : PySem.W.keepIn K (.ref f5) = true)
    (a6 : PySem.W.nsIn K mainGlobals "_law_holds" = some (some (.ref f6)))
    (l6 : K.lookup f6 = some ⟨oc6, od6, .func (PySem.W.fnOf "_law_holds" "_law_holds" (defArgs sLawHolds) (defBody sLawHolds) (defScope sLawHolds) .none kV6 dc6 pm6 an6 cd6 ct6), sl6⟩)
    (c6 : PySem.W.codeIn K cd6 "_law_holds" = true)
    (k6 : PySem.W.keepIn K (.ref f6) = true)
    (a7 : PySem.W.nsIn K mainGlobals "law" = some (some (.ref f7)))
    (l7 : K.lookup f7 = some ⟨oc7, od7, .func (PySem.W.fnOf "law" "law" (defArgs sLaw) (defBody sLaw) (defScope sLaw) .none kV7 dc7 pm7 an7 cd7 ct7), sl7⟩)
    (c7 : PySem.W.codeIn K cd7 "law" = true)
    (k7 : PySem.W.keepIn K (.ref f7) = true)
    (gP : PySem.W.nsIn K mainGlobals "PlainError" = some (some (.ref CP)))
    (gT : PySem.W.nsIn K mainGlobals "NoText" = some (some (.ref CT)))
    (gD : PySem.W.nsIn K mainGlobals "NoDoor" = some (some (.ref CD)))
    (gU : PySem.W.nsIn K mainGlobals "NothingToUndo" = some (some (.ref CU)))
    (gS : PySem.W.nsIn K mainGlobals "NoStep" = some (some (.ref CS)))
    (gE : PySem.W.nsIn K mainGlobals "NoDeed" = some (some (.ref CE)))
    (gF : PySem.W.nsIn K mainGlobals "NoForm" = some (some (.ref CF)))
    (gA : PySem.W.nsIn K mainGlobals "NoPart" = some (some (.ref CA)))
    (gL : PySem.W.nsIn K mainGlobals "NoLine" = some (some (.ref CL)))
    (a_0 : PySem.W.findIn K (.ref CS) "__init__" = some (some (.ref g0)))
    (i_0 : PySem.W.isFn K (.ref g0) = true)
    (l_0 : K.lookup g0 = some ⟨oc_0, od_0, .func (PySem.W.fnOf "__init__" "NoStep.__init__" (defArgs sNostepInit) (defBody sNostepInit) (defScope sNostepInit) .none kV_0 dc_0 pm_0 an_0 cd_0 ct_0), sl_0⟩)
    (c_0 : PySem.W.codeIn K cd_0 "NoStep.__init__" = true)
    (k_0 : PySem.W.keepIn K (.ref g0) = true)
    (a_1 : PySem.W.findIn K (.ref CE) "__init__" = some (some (.ref g1)))
    (i_1 : PySem.W.isFn K (.ref g1) = true)
    (l_1 : K.lookup g1 = some ⟨oc_1, od_1, .func (PySem.W.fnOf "__init__" "NoDeed.__init__" (defArgs sNodeedInit) (defBody sNodeedInit) (defScope sNodeedInit) .none kV_1 dc_1 pm_1 an_1 cd_1 ct_1), sl_1⟩)
    (c_1 : PySem.W.codeIn K cd_1 "NoDeed.__init__" = true)
    (k_1 : PySem.W.keepIn K (.ref g1) = true)
    (a_2 : PySem.W.findIn K (.ref CF) "__init__" = some (some (.ref g2)))
    (i_2 : PySem.W.isFn K (.ref g2) = true)
    (l_2 : K.lookup g2 = some ⟨oc_2, od_2, .func (PySem.W.fnOf "__init__" "NoForm.__init__" (defArgs sNoformInit) (defBody sNoformInit) (defScope sNoformInit) .none kV_2 dc_2 pm_2 an_2 cd_2 ct_2), sl_2⟩)
    (c_2 : PySem.W.codeIn K cd_2 "NoForm.__init__" = true)
    (k_2 : PySem.W.keepIn K (.ref g2) = true)
    (a_3 : PySem.W.findIn K (.ref CA) "__init__" = some (some (.ref g3)))
    (i_3 : PySem.W.isFn K (.ref g3) = true)
    (l_3 : K.lookup g3 = some ⟨oc_3, od_3, .func (PySem.W.fnOf "__init__" "NoPart.__init__" (defArgs sNopartInit) (defBody sNopartInit) (defScope sNopartInit) .none kV_3 dc_3 pm_3 an_3 cd_3 ct_3), sl_3⟩)
    (c_3 : PySem.W.codeIn K cd_3 "NoPart.__init__" = true)
    (k_3 : PySem.W.keepIn K (.ref g3) = true)
    (a_4 : PySem.W.findIn K (.ref CL) "__init__" = some (some (.ref g4)))
    (i_4 : PySem.W.isFn K (.ref g4) = true)
    (l_4 : K.lookup g4 = some ⟨oc_4, od_4, .func (PySem.W.fnOf "__init__" "NoLine.__init__" (defArgs sNolineInit) (defBody sNolineInit) (defScope sNolineInit) .none kV_4 dc_4 pm_4 an_4 cd_4 ct_4), sl_4⟩)
    (c_4 : PySem.W.codeIn K cd_4 "NoLine.__init__" = true)
    (k_4 : PySem.W.keepIn K (.ref g4) = true)
    (nV : PySem.W.nsIn K mainGlobals "ValueError" = some none)
    (rg : PySem.W.specialIn K (.ref CP) "__getattribute__" = some (some (.builtin "type.__getattribute__")))
    (rd : PySem.W.readsIn K CP (.type "type") = true)
    (vV : PySem.W.findCls K (.ref CP) (.type "type") "__init__" = some (.val (.builtin "ValueError.__init__")))
    (en : PySem.W.specialIn K (.builtin "object.__class__") "__get__" = some (some (.builtin "getset_descriptor.__get__")))
    (et : PySem.W.takesIn K (.builtin "object.__class__") = some true)
    (lCS : K.lookup CS = some (excClassObj nmS qnS CS NNS bsS bmS true snS subS abS colS ddS q0S q1S q2S q3S q5S "ValueError.__new__"))
    (rVS : PySem.HandSPX.refsVE bmS = true)
    (sXS : PySem.W.findIn K (.ref CS) "__setattr__" = some (some (.builtin "object.__setattr__")))
    (iXS : PySem.W.findIn K (.ref CS) "index" = some none)
    (tGS : PySem.W.typeIn K (.ref g0) = some (.type "function"))
    (lCE : K.lookup CE = some (excClassObj nmE qnE CE NNE bsE bmE true snE subE abE colE ddE q0E q1E q2E q3E q5E "ValueError.__new__"))
    (rVE : PySem.HandSPX.refsVE bmE = true)
    (sXE : PySem.W.findIn K (.ref CE) "__setattr__" = some (some (.builtin "object.__setattr__")))
    (iXE : PySem.W.findIn K (.ref CE) "index" = some none)
    (tGE : PySem.W.typeIn K (.ref g1) = some (.type "function"))
    (lCF : K.lookup CF = some (excClassObj nmF qnF CF NNF bsF bmF true snF subF abF colF ddF q0F q1F q2F q3F q5F "ValueError.__new__"))
    (rVF : PySem.HandSPX.refsVE bmF = true)
    (sXF : PySem.W.findIn K (.ref CF) "__setattr__" = some (some (.builtin "object.__setattr__")))
    (iXF : PySem.W.findIn K (.ref CF) "form" = some none)
    (tGF : PySem.W.typeIn K (.ref g2) = some (.type "function"))
    (lCA : K.lookup CA = some (excClassObj nmA qnA CA NNA bsA bmA true snA subA abA colA ddA q0A q1A q2A q3A q5A "ValueError.__new__"))
    (rVA : PySem.HandSPX.refsVE bmA = true)
    (sXA : PySem.W.findIn K (.ref CA) "__setattr__" = some (some (.builtin "object.__setattr__")))
    (iXA : PySem.W.findIn K (.ref CA) "part" = some none)
    (tGA : PySem.W.typeIn K (.ref g3) = some (.type "function"))
    (lCL : K.lookup CL = some (excClassObj nmL qnL CL NNL bsL bmL true snL subL abL colL ddL q0L q1L q2L q3L q5L "ValueError.__new__"))
    (rVL : PySem.HandSPX.refsVE bmL = true)
    (sXL : PySem.W.findIn K (.ref CL) "__setattr__" = some (some (.builtin "object.__setattr__")))
    (iXL : PySem.W.findIn K (.ref CL) "line" = some none)
    (tGL : PySem.W.typeIn K (.ref g4) = some (.type "function"))
    (xiP : PySem.W.excIn K CP [.type "ValueError", .type "Exception", .type "BaseException", .type "object"] "ValueError.__new__" = true)
    (xiT : PySem.W.excIn K CT [.type "ValueError", .type "Exception", .type "BaseException", .type "object"] "ValueError.__new__" = true)
    (xiD : PySem.W.excIn K CD [.type "ValueError", .type "Exception", .type "BaseException", .type "object"] "ValueError.__new__" = true)
    (xiU : PySem.W.excIn K CU [.type "ValueError", .type "Exception", .type "BaseException", .type "object"] "ValueError.__new__" = true)
    (kNP : PySem.W.keepIn K (.ref CP) = true)
    (bNP : PySem.W.subIn K (.ref CP) (.type "BaseException") = some true)
    (tNP : PySem.W.typeIn K (.ref CP) = some (.type "type"))
    (jNP : PySem.W.isClsIn K CP = true)
    (egP : PySem.W.findIn K (.ref CP) "__getattribute__" = some (some (.builtin "BaseException.__getattribute__")))
    (ekP : PySem.W.findIn K (.ref CP) "__getattr__" = some none)
    (edP : PySem.W.hasDictIn K CP = true)
    (eaP : PySem.W.findIn K (.ref CP) "__class__" = some (some (.builtin "object.__class__")))
    (emP : PySem.W.mroIn K CP (.type "object") = some true)
    (sVP : PySem.W.subIn K (.ref CP) (.type "ValueError") = some true)
    (sPP : PySem.W.subIn K (.ref CP) (.ref CP) = some true)
    (sPT : PySem.W.subIn K (.ref CP) (.ref CT) = some false)
    (sPD : PySem.W.subIn K (.ref CP) (.ref CD) = some false)
    (sPU : PySem.W.subIn K (.ref CP) (.ref CU) = some false)
    (sPS : PySem.W.subIn K (.ref CP) (.ref CS) = some false)
    (sPE : PySem.W.subIn K (.ref CP) (.ref CE) = some false)
    (sPF : PySem.W.subIn K (.ref CP) (.ref CF) = some false)
    (sPA : PySem.W.subIn K (.ref CP) (.ref CA) = some false)
    (sPL : PySem.W.subIn K (.ref CP) (.ref CL) = some false)
    (kNT : PySem.W.keepIn K (.ref CT) = true)
    (bNT : PySem.W.subIn K (.ref CT) (.type "BaseException") = some true)
    (tNT : PySem.W.typeIn K (.ref CT) = some (.type "type"))
    (jNT : PySem.W.isClsIn K CT = true)
    (egT : PySem.W.findIn K (.ref CT) "__getattribute__" = some (some (.builtin "BaseException.__getattribute__")))
    (ekT : PySem.W.findIn K (.ref CT) "__getattr__" = some none)
    (edT : PySem.W.hasDictIn K CT = true)
    (eaT : PySem.W.findIn K (.ref CT) "__class__" = some (some (.builtin "object.__class__")))
    (emT : PySem.W.mroIn K CT (.type "object") = some true)
    (sVT : PySem.W.subIn K (.ref CT) (.type "ValueError") = some true)
    (sTP : PySem.W.subIn K (.ref CT) (.ref CP) = some true)
    (sTT : PySem.W.subIn K (.ref CT) (.ref CT) = some true)
    (sTD : PySem.W.subIn K (.ref CT) (.ref CD) = some false)
    (sTU : PySem.W.subIn K (.ref CT) (.ref CU) = some false)
    (sTS : PySem.W.subIn K (.ref CT) (.ref CS) = some false)
    (sTE : PySem.W.subIn K (.ref CT) (.ref CE) = some false)
    (sTF : PySem.W.subIn K (.ref CT) (.ref CF) = some false)
    (sTA : PySem.W.subIn K (.ref CT) (.ref CA) = some false)
    (sTL : PySem.W.subIn K (.ref CT) (.ref CL) = some false)
    (kND : PySem.W.keepIn K (.ref CD) = true)
    (bND : PySem.W.subIn K (.ref CD) (.type "BaseException") = some true)
    (tND : PySem.W.typeIn K (.ref CD) = some (.type "type"))
    (jND : PySem.W.isClsIn K CD = true)
    (egD : PySem.W.findIn K (.ref CD) "__getattribute__" = some (some (.builtin "BaseException.__getattribute__")))
    (ekD : PySem.W.findIn K (.ref CD) "__getattr__" = some none)
    (edD : PySem.W.hasDictIn K CD = true)
    (eaD : PySem.W.findIn K (.ref CD) "__class__" = some (some (.builtin "object.__class__")))
    (emD : PySem.W.mroIn K CD (.type "object") = some true)
    (sVD : PySem.W.subIn K (.ref CD) (.type "ValueError") = some true)
    (sDP : PySem.W.subIn K (.ref CD) (.ref CP) = some true)
    (sDT : PySem.W.subIn K (.ref CD) (.ref CT) = some false)
    (sDD : PySem.W.subIn K (.ref CD) (.ref CD) = some true)
    (sDU : PySem.W.subIn K (.ref CD) (.ref CU) = some false)
    (sDS : PySem.W.subIn K (.ref CD) (.ref CS) = some false)
    (sDE : PySem.W.subIn K (.ref CD) (.ref CE) = some false)
    (sDF : PySem.W.subIn K (.ref CD) (.ref CF) = some false)
    (sDA : PySem.W.subIn K (.ref CD) (.ref CA) = some false)
    (sDL : PySem.W.subIn K (.ref CD) (.ref CL) = some false)
    (kNU : PySem.W.keepIn K (.ref CU) = true)
    (bNU : PySem.W.subIn K (.ref CU) (.type "BaseException") = some true)
    (tNU : PySem.W.typeIn K (.ref CU) = some (.type "type"))
    (jNU : PySem.W.isClsIn K CU = true)
    (egU : PySem.W.findIn K (.ref CU) "__getattribute__" = some (some (.builtin "BaseException.__getattribute__")))
    (ekU : PySem.W.findIn K (.ref CU) "__getattr__" = some none)
    (edU : PySem.W.hasDictIn K CU = true)
    (eaU : PySem.W.findIn K (.ref CU) "__class__" = some (some (.builtin "object.__class__")))
    (emU : PySem.W.mroIn K CU (.type "object") = some true)
    (sVU : PySem.W.subIn K (.ref CU) (.type "ValueError") = some true)
    (sUP : PySem.W.subIn K (.ref CU) (.ref CP) = some true)
    (sUT : PySem.W.subIn K (.ref CU) (.ref CT) = some false)
    (sUD : PySem.W.subIn K (.ref CU) (.ref CD) = some false)
    (sUU : PySem.W.subIn K (.ref CU) (.ref CU) = some true)
    (sUS : PySem.W.subIn K (.ref CU) (.ref CS) = some false)
    (sUE : PySem.W.subIn K (.ref CU) (.ref CE) = some false)
    (sUF : PySem.W.subIn K (.ref CU) (.ref CF) = some false)
    (sUA : PySem.W.subIn K (.ref CU) (.ref CA) = some false)
    (sUL : PySem.W.subIn K (.ref CU) (.ref CL) = some false)
    (kNS : PySem.W.keepIn K (.ref CS) = true)
    (bNS : PySem.W.subIn K (.ref CS) (.type "BaseException") = some true)
    (tNS : PySem.W.typeIn K (.ref CS) = some (.type "type"))
    (jNS : PySem.W.isClsIn K CS = true)
    (egS : PySem.W.findIn K (.ref CS) "__getattribute__" = some (some (.builtin "BaseException.__getattribute__")))
    (ekS : PySem.W.findIn K (.ref CS) "__getattr__" = some none)
    (edS : PySem.W.hasDictIn K CS = true)
    (eaS : PySem.W.findIn K (.ref CS) "__class__" = some (some (.builtin "object.__class__")))
    (emS : PySem.W.mroIn K CS (.type "object") = some true)
    (sVS : PySem.W.subIn K (.ref CS) (.type "ValueError") = some true)
    (sSP : PySem.W.subIn K (.ref CS) (.ref CP) = some true)
    (sST : PySem.W.subIn K (.ref CS) (.ref CT) = some false)
    (sSD : PySem.W.subIn K (.ref CS) (.ref CD) = some false)
    (sSU : PySem.W.subIn K (.ref CS) (.ref CU) = some false)
    (sSS : PySem.W.subIn K (.ref CS) (.ref CS) = some true)
    (sSE : PySem.W.subIn K (.ref CS) (.ref CE) = some false)
    (sSF : PySem.W.subIn K (.ref CS) (.ref CF) = some false)
    (sSA : PySem.W.subIn K (.ref CS) (.ref CA) = some false)
    (sSL : PySem.W.subIn K (.ref CS) (.ref CL) = some false)
    (kNE : PySem.W.keepIn K (.ref CE) = true)
    (bNE : PySem.W.subIn K (.ref CE) (.type "BaseException") = some true)
    (tNE : PySem.W.typeIn K (.ref CE) = some (.type "type"))
    (jNE : PySem.W.isClsIn K CE = true)
    (egE : PySem.W.findIn K (.ref CE) "__getattribute__" = some (some (.builtin "BaseException.__getattribute__")))
    (ekE : PySem.W.findIn K (.ref CE) "__getattr__" = some none)
    (edE : PySem.W.hasDictIn K CE = true)
    (eaE : PySem.W.findIn K (.ref CE) "__class__" = some (some (.builtin "object.__class__")))
    (emE : PySem.W.mroIn K CE (.type "object") = some true)
    (sVE : PySem.W.subIn K (.ref CE) (.type "ValueError") = some true)
    (sEP : PySem.W.subIn K (.ref CE) (.ref CP) = some true)
    (sET : PySem.W.subIn K (.ref CE) (.ref CT) = some false)
    (sED : PySem.W.subIn K (.ref CE) (.ref CD) = some false)
    (sEU : PySem.W.subIn K (.ref CE) (.ref CU) = some false)
    (sES : PySem.W.subIn K (.ref CE) (.ref CS) = some false)
    (sEE : PySem.W.subIn K (.ref CE) (.ref CE) = some true)
    (sEF : PySem.W.subIn K (.ref CE) (.ref CF) = some false)
    (sEA : PySem.W.subIn K (.ref CE) (.ref CA) = some false)
    (sEL : PySem.W.subIn K (.ref CE) (.ref CL) = some false)
    (kNF : PySem.W.keepIn K (.ref CF) = true)
    (bNF : PySem.W.subIn K (.ref CF) (.type "BaseException") = some true)
    (tNF : PySem.W.typeIn K (.ref CF) = some (.type "type"))
    (jNF : PySem.W.isClsIn K CF = true)
    (egF : PySem.W.findIn K (.ref CF) "__getattribute__" = some (some (.builtin "BaseException.__getattribute__")))
    (ekF : PySem.W.findIn K (.ref CF) "__getattr__" = some none)
    (edF : PySem.W.hasDictIn K CF = true)
    (eaF : PySem.W.findIn K (.ref CF) "__class__" = some (some (.builtin "object.__class__")))
    (emF : PySem.W.mroIn K CF (.type "object") = some true)
    (sVF : PySem.W.subIn K (.ref CF) (.type "ValueError") = some true)
    (sFP : PySem.W.subIn K (.ref CF) (.ref CP) = some true)
    (sFT : PySem.W.subIn K (.ref CF) (.ref CT) = some false)
    (sFD : PySem.W.subIn K (.ref CF) (.ref CD) = some false)
    (sFU : PySem.W.subIn K (.ref CF) (.ref CU) = some false)
    (sFS : PySem.W.subIn K (.ref CF) (.ref CS) = some false)
    (sFE : PySem.W.subIn K (.ref CF) (.ref CE) = some false)
    (sFF : PySem.W.subIn K (.ref CF) (.ref CF) = some true)
    (sFA : PySem.W.subIn K (.ref CF) (.ref CA) = some false)
    (sFL : PySem.W.subIn K (.ref CF) (.ref CL) = some false)
    (kNA : PySem.W.keepIn K (.ref CA) = true)
    (bNA : PySem.W.subIn K (.ref CA) (.type "BaseException") = some true)
    (tNA : PySem.W.typeIn K (.ref CA) = some (.type "type"))
    (jNA : PySem.W.isClsIn K CA = true)
    (egA : PySem.W.findIn K (.ref CA) "__getattribute__" = some (some (.builtin "BaseException.__getattribute__")))
    (ekA : PySem.W.findIn K (.ref CA) "__getattr__" = some none)
    (edA : PySem.W.hasDictIn K CA = true)
    (eaA : PySem.W.findIn K (.ref CA) "__class__" = some (some (.builtin "object.__class__")))
    (emA : PySem.W.mroIn K CA (.type "object") = some true)
    (sVA : PySem.W.subIn K (.ref CA) (.type "ValueError") = some true)
    (sAP : PySem.W.subIn K (.ref CA) (.ref CP) = some true)
    (sAT : PySem.W.subIn K (.ref CA) (.ref CT) = some false)
    (sAD : PySem.W.subIn K (.ref CA) (.ref CD) = some false)
    (sAU : PySem.W.subIn K (.ref CA) (.ref CU) = some false)
    (sAS : PySem.W.subIn K (.ref CA) (.ref CS) = some false)
    (sAE : PySem.W.subIn K (.ref CA) (.ref CE) = some false)
    (sAF : PySem.W.subIn K (.ref CA) (.ref CF) = some false)
    (sAA : PySem.W.subIn K (.ref CA) (.ref CA) = some true)
    (sAL : PySem.W.subIn K (.ref CA) (.ref CL) = some false)
    (kNL : PySem.W.keepIn K (.ref CL) = true)
    (bNL : PySem.W.subIn K (.ref CL) (.type "BaseException") = some true)
    (tNL : PySem.W.typeIn K (.ref CL) = some (.type "type"))
    (jNL : PySem.W.isClsIn K CL = true)
    (egL : PySem.W.findIn K (.ref CL) "__getattribute__" = some (some (.builtin "BaseException.__getattribute__")))
    (ekL : PySem.W.findIn K (.ref CL) "__getattr__" = some none)
    (edL : PySem.W.hasDictIn K CL = true)
    (eaL : PySem.W.findIn K (.ref CL) "__class__" = some (some (.builtin "object.__class__")))
    (emL : PySem.W.mroIn K CL (.type "object") = some true)
    (sVL : PySem.W.subIn K (.ref CL) (.type "ValueError") = some true)
    (sLP : PySem.W.subIn K (.ref CL) (.ref CP) = some true)
    (sLT : PySem.W.subIn K (.ref CL) (.ref CT) = some false)
    (sLD : PySem.W.subIn K (.ref CL) (.ref CD) = some false)
    (sLU : PySem.W.subIn K (.ref CL) (.ref CU) = some false)
    (sLS : PySem.W.subIn K (.ref CL) (.ref CS) = some false)
    (sLE : PySem.W.subIn K (.ref CL) (.ref CE) = some false)
    (sLF : PySem.W.subIn K (.ref CL) (.ref CF) = some false)
    (sLA : PySem.W.subIn K (.ref CL) (.ref CA) = some false)
    (sLL : PySem.W.subIn K (.ref CL) (.ref CL) = some true)
    (z0 : PySem.W.nsIn K mainGlobals "len" = some none)
    (z1 : PySem.W.nsIn K mainGlobals "int" = some none)
    (z2 : PySem.W.nsIn K mainGlobals "abs" = some none)
    (z3 : PySem.W.nsIn K mainGlobals "max" = some none)
    (z4 : PySem.W.nsIn K mainGlobals "min" = some none)
    (z5 : PySem.W.nsIn K mainGlobals "range" = some none)
    (z6 : PySem.W.nsIn K mainGlobals "isinstance" = some none)
    (z7 : PySem.W.nsIn K mainGlobals "str" = some none)
    (z8 : PySem.W.nsIn K mainGlobals "tuple" = some none)
    (z9 : PySem.W.nsIn K mainGlobals "bool" = some none)
    (z10 : PySem.W.nsIn K mainGlobals "all" = some none)
    (z11 : PySem.W.nsIn K mainGlobals "set" = some none)
    (z12 : PySem.W.nsIn K mainGlobals "enumerate" = some none)
    (zs : PySem.W.nsIn K cStatics sharingNotToldKey = some none) :
    ∃ fd : FuncData, (∀ (s : Shared) (v : Value), BindsTo s fd ⟨[v], []⟩ [("script", v)]) ∧ ∀ base : Heap, K.In base → base.Ns mainGlobals mg → FnOk l.prog w K mg base CX0 4 fa fd ["script"] (spLaw K) := by
  have e := hfa.symm.trans (PySem.W.mg_of X G a7)
  cases e
  have T : Nms mg := by
    constructor
    · exact PySem.W.mg_none_of X G z0
    · exact PySem.W.mg_none_of X G z1
    · exact PySem.W.mg_none_of X G z2
    · exact PySem.W.mg_none_of X G z3
    · exact PySem.W.mg_none_of X G z4
    · exact PySem.W.mg_none_of X G z5
    · exact PySem.W.mg_none_of X G z6
    · exact PySem.W.mg_none_of X G z7
    · exact PySem.W.mg_none_of X G z8
    · exact PySem.W.mg_none_of X G z9
    · exact PySem.W.mg_none_of X G z10
    · exact PySem.W.mg_none_of X G z11
    · exact PySem.W.mg_none_of X G z12
  have F0 := fun_mk (st := sLawJar) l0 c0 k0
  have b0 := F0.binds (ps := ["script", "k"]) fun _ _ _ _ _ _ us hl => match us, hl with | [_, _], _ => rfl
  have m0 := PySem.W.mg_of X G a0
  have F1 := fun_mk (st := sLawDraw) l1 c1 k1
  have b1 := F1.binds (ps := ["jar", "many"]) fun _ _ _ _ _ _ us hl => match us, hl with | [_, _], _ => rfl
  have m1 := PySem.W.mg_of X G a1
  have F2 := fun_mk (st := sLawThing) l2 c2 k2
  have b2 := F2.binds (ps := ["jar"]) fun _ _ _ _ _ _ us hl => match us, hl with | [_], _ => rfl
  have m2 := PySem.W.mg_of X G a2
  have F3 := fun_mk (st := sLawSame) l3 c3 k3
  have b3 := F3.binds (ps := ["found", "due"]) fun _ _ _ _ _ _ us hl => match us, hl with | [_, _], _ => rfl
  have m3 := PySem.W.mg_of X G a3
  have F4 := fun_mk (st := sLawClasses) l4 c4 k4
  have b4 := F4.binds (ps := ["error"]) fun _ _ _ _ _ _ us hl => match us, hl with | [_], _ => rfl
  have m4 := PySem.W.mg_of X G a4
  have F5 := fun_mk (st := sLawErrors) l5 c5 k5
  have b5 := F5.binds (ps := ["word", "thing", "by_name"]) fun _ _ _ _ _ _ us hl => match us, hl with | [_, _, _], _ => rfl
  have m5 := PySem.W.mg_of X G a5
  have F6 := fun_mk (st := sLawHolds) l6 c6 k6
  have b6 := F6.binds (ps := ["errors", "thing"]) fun _ _ _ _ _ _ us hl => match us, hl with | [_, _], _ => rfl
  have m6 := PySem.W.mg_of X G a6
  have F7 := fun_mk (st := sLaw) l7 c7 k7
  have b7 := F7.binds (ps := ["script"]) fun _ _ _ _ _ _ us hl => match us, hl with | [_], _ => rfl
  have m7 := PySem.W.mg_of X G a7
  refine ⟨PySem.W.fnOf "law" "law" (defArgs sLaw) (defBody sLaw) (defScope sLaw) .none kV7 dc7 pm7 an7 cd7 ct7, fun s v => .of_eq rfl, fun base KB GB => ?_⟩
  have Cjar : Cl l.prog w K mg base 1 "_law_jar" (spJar K) := ⟨f0, _, _, ok_jar F0 T, m0, k0, b0⟩
  have Cdraw : Cl l.prog w K mg base 1 "_law_draw" spDraw := ⟨f1, _, _, ok_draw F1 T, m1, k1, b1⟩
  have Cth : Cl l.prog w K mg base 2 "_law_thing" spThing := ⟨f2, _, _, ok_thing F2 T Cdraw, m2, k2, b2⟩
  have Csa : Cl l.prog w K mg base 1 "_law_same" spSameQ := ⟨f3, _, _, ok_same F3 T, m3, k3, b3⟩
  have gPm : mg "PlainError" = some (.ref CP) := PySem.W.mg_of X G gP
  have FIS := fun_mk (st := sNostepInit) l_0 c_0 k_0
  have bIS := FIS.binds (ps := ["self", "index"]) fun _ _ _ _ _ _ us hl => match us, hl with | [_, _], _ => rfl
  have kIS : KBn K (PySem.W.fnOf "__init__" "NoStep.__init__" (defArgs sNostepInit) (defBody sNostepInit) (defScope sNostepInit) .none kV_0 dc_0 pm_0 an_0 cd_0 ct_0) ["self", "index"] 1 ["index"] (fun us ws => us ++ ws) (fun xs ys => xs ++ ys) :=
    ⟨fun s us ws _ h1 h2 => match us, ws, h1, h2 with | [_], [_], _, _ => .of_eq rfl, fun r1 r2 => r1.append r2⟩
  have oS : OexC K CS := ⟨⟨_, _, _, _, _, _, _, _, _, _, _, _, _, _, _, lCS, rVS⟩, sXS, bNS, tNS, kNS⟩
  have WS : ErC l.prog w K mg base "NoStep" CS "index" := ⟨oS, ⟨g0, _, a_0, tGS, ok_nostep FIS ⟨oS, iXS, gPm, rg, rd, vV⟩, bIS, kIS⟩, PySem.W.mg_of X G gS, ⟨egS, ekS, bNS, edS⟩, iXS, ⟨egS, ekS, bNS, edS, eaS, en, et, emS⟩⟩
  have FIE := fun_mk (st := sNodeedInit) l_1 c_1 k_1
  have bIE := FIE.binds (ps := ["self", "index"]) fun _ _ _ _ _ _ us hl => match us, hl with | [_, _], _ => rfl
  have kIE : KBn K (PySem.W.fnOf "__init__" "NoDeed.__init__" (defArgs sNodeedInit) (defBody sNodeedInit) (defScope sNodeedInit) .none kV_1 dc_1 pm_1 an_1 cd_1 ct_1) ["self", "index"] 1 ["index"] (fun us ws => us ++ ws) (fun xs ys => xs ++ ys) :=
    ⟨fun s us ws _ h1 h2 => match us, ws, h1, h2 with | [_], [_], _, _ => .of_eq rfl, fun r1 r2 => r1.append r2⟩
  have oE : OexC K CE := ⟨⟨_, _, _, _, _, _, _, _, _, _, _, _, _, _, _, lCE, rVE⟩, sXE, bNE, tNE, kNE⟩
  have WE : ErC l.prog w K mg base "NoDeed" CE "index" := ⟨oE, ⟨g1, _, a_1, tGE, ok_nodeed FIE ⟨oE, iXE, gPm, rg, rd, vV⟩, bIE, kIE⟩, PySem.W.mg_of X G gE, ⟨egE, ekE, bNE, edE⟩, iXE, ⟨egE, ekE, bNE, edE, eaE, en, et, emE⟩⟩
  have FIF := fun_mk (st := sNoformInit) l_2 c_2 k_2
  have bIF := FIF.binds (ps := ["self", "form"]) fun _ _ _ _ _ _ us hl => match us, hl with | [_, _], _ => rfl
  have kIF : KBn K (PySem.W.fnOf "__init__" "NoForm.__init__" (defArgs sNoformInit) (defBody sNoformInit) (defScope sNoformInit) .none kV_2 dc_2 pm_2 an_2 cd_2 ct_2) ["self", "form"] 1 ["form"] (fun us ws => us ++ ws) (fun xs ys => xs ++ ys) :=
    ⟨fun s us ws _ h1 h2 => match us, ws, h1, h2 with | [_], [_], _, _ => .of_eq rfl, fun r1 r2 => r1.append r2⟩
  have oF : OexC K CF := ⟨⟨_, _, _, _, _, _, _, _, _, _, _, _, _, _, _, lCF, rVF⟩, sXF, bNF, tNF, kNF⟩
  have WF : ErC l.prog w K mg base "NoForm" CF "form" := ⟨oF, ⟨g2, _, a_2, tGF, ok_noform FIF ⟨oF, iXF, gPm, rg, rd, vV⟩, bIF, kIF⟩, PySem.W.mg_of X G gF, ⟨egF, ekF, bNF, edF⟩, iXF, ⟨egF, ekF, bNF, edF, eaF, en, et, emF⟩⟩
  have FIA := fun_mk (st := sNopartInit) l_3 c_3 k_3
  have bIA := FIA.binds (ps := ["self", "part"]) fun _ _ _ _ _ _ us hl => match us, hl with | [_, _], _ => rfl
  have kIA : KBn K (PySem.W.fnOf "__init__" "NoPart.__init__" (defArgs sNopartInit) (defBody sNopartInit) (defScope sNopartInit) .none kV_3 dc_3 pm_3 an_3 cd_3 ct_3) ["self", "part"] 1 ["part"] (fun us ws => us ++ ws) (fun xs ys => xs ++ ys) :=
    ⟨fun s us ws _ h1 h2 => match us, ws, h1, h2 with | [_], [_], _, _ => .of_eq rfl, fun r1 r2 => r1.append r2⟩
  have oA : OexC K CA := ⟨⟨_, _, _, _, _, _, _, _, _, _, _, _, _, _, _, lCA, rVA⟩, sXA, bNA, tNA, kNA⟩
  have WA : ErC l.prog w K mg base "NoPart" CA "part" := ⟨oA, ⟨g3, _, a_3, tGA, ok_nopart FIA ⟨oA, iXA, gPm, rg, rd, vV⟩, bIA, kIA⟩, PySem.W.mg_of X G gA, ⟨egA, ekA, bNA, edA⟩, iXA, ⟨egA, ekA, bNA, edA, eaA, en, et, emA⟩⟩
  have FIL := fun_mk (st := sNolineInit) l_4 c_4 k_4
  have bIL := FIL.binds (ps := ["self", "line"]) fun _ _ _ _ _ _ us hl => match us, hl with | [_, _], _ => rfl
  have kIL : KBn K (PySem.W.fnOf "__init__" "NoLine.__init__" (defArgs sNolineInit) (defBody sNolineInit) (defScope sNolineInit) .none kV_4 dc_4 pm_4 an_4 cd_4 ct_4) ["self", "line"] 1 ["line"] (fun us ws => us ++ ws) (fun xs ys => xs ++ ys) :=
    ⟨fun s us ws _ h1 h2 => match us, ws, h1, h2 with | [_], [_], _, _ => .of_eq rfl, fun r1 r2 => r1.append r2⟩
  have oL : OexC K CL := ⟨⟨_, _, _, _, _, _, _, _, _, _, _, _, _, _, _, lCL, rVL⟩, sXL, bNL, tNL, kNL⟩
  have WL : ErC l.prog w K mg base "NoLine" CL "line" := ⟨oL, ⟨g4, _, a_4, tGL, ok_noline FIL ⟨oL, iXL, gPm, rg, rd, vV⟩, bIL, kIL⟩, PySem.W.mg_of X G gL, ⟨egL, ekL, bNL, edL⟩, iXL, ⟨egL, ekL, bNL, edL, eaL, en, et, emL⟩⟩
  have WP : ErN K mg "PlainError" CP := ⟨xiP, PySem.W.mg_of X G gP, kNP, ⟨egP, ekP, bNP, edP, eaP, en, et, emP⟩⟩
  have WT : ErN K mg "NoText" CT := ⟨xiT, PySem.W.mg_of X G gT, kNT, ⟨egT, ekT, bNT, edT, eaT, en, et, emT⟩⟩
  have WD : ErN K mg "NoDoor" CD := ⟨xiD, PySem.W.mg_of X G gD, kND, ⟨egD, ekD, bND, edD, eaD, en, et, emD⟩⟩
  have WU : ErN K mg "NothingToUndo" CU := ⟨xiU, PySem.W.mg_of X G gU, kNU, ⟨egU, ekU, bNU, edU, eaU, en, et, emU⟩⟩
  have W : E9 l.prog w K mg base ⟨CP, CT, CD, CU, CS, CE, CF, CA, CL⟩ := ⟨WP, WT, WD, WU, WS, WE, WF, WA, WL⟩
  have N : N9 mg ⟨CP, CT, CD, CU, CS, CE, CF, CA, CL⟩ := ⟨PySem.W.mg_of X G gP, PySem.W.mg_of X G gT, PySem.W.mg_of X G gD, PySem.W.mg_of X G gU, PySem.W.mg_of X G gS, PySem.W.mg_of X G gE, PySem.W.mg_of X G gF, PySem.W.mg_of X G gA, PySem.W.mg_of X G gL, PySem.W.mg_none_of X G nV⟩
  have Z : K9 K ⟨CP, CT, CD, CU, CS, CE, CF, CA, CL⟩ := ⟨⟨kit_me, kit_ty_ref sVP, kit_ref_no jNT tNT sPT sPP, kit_ref_no jND tND sPD sPP, kit_ref_no jNU tNU sPU sPP, kit_ref_no jNS tNS sPS sPP, kit_ref_no jNE tNE sPE sPP, kit_ref_no jNF tNF sPF sPP, kit_ref_no jNA tNA sPA sPP, kit_ref_no jNL tNL sPL sPP⟩,
    ⟨kit_ref_yes jNP tNP sTP, kit_ty_ref sVT, kit_me, kit_ref_no jND tND sTD sTT, kit_ref_no jNU tNU sTU sTT, kit_ref_no jNS tNS sTS sTT, kit_ref_no jNE tNE sTE sTT, kit_ref_no jNF tNF sTF sTT, kit_ref_no jNA tNA sTA sTT, kit_ref_no jNL tNL sTL sTT⟩,
    ⟨kit_ref_yes jNP tNP sDP, kit_ty_ref sVD, kit_ref_no jNT tNT sDT sDD, kit_me, kit_ref_no jNU tNU sDU sDD, kit_ref_no jNS tNS sDS sDD, kit_ref_no jNE tNE sDE sDD, kit_ref_no jNF tNF sDF sDD, kit_ref_no jNA tNA sDA sDD, kit_ref_no jNL tNL sDL sDD⟩,
    ⟨kit_ref_yes jNP tNP sUP, kit_ty_ref sVU, kit_ref_no jNT tNT sUT sUU, kit_ref_no jND tND sUD sUU, kit_me, kit_ref_no jNS tNS sUS sUU, kit_ref_no jNE tNE sUE sUU, kit_ref_no jNF tNF sUF sUU, kit_ref_no jNA tNA sUA sUU, kit_ref_no jNL tNL sUL sUU⟩,
    ⟨kit_ref_yes jNP tNP sSP, kit_ty_ref sVS, kit_ref_no jNT tNT sST sSS, kit_ref_no jND tND sSD sSS, kit_ref_no jNU tNU sSU sSS, kit_me, kit_ref_no jNE tNE sSE sSS, kit_ref_no jNF tNF sSF sSS, kit_ref_no jNA tNA sSA sSS, kit_ref_no jNL tNL sSL sSS⟩,
    ⟨kit_ref_yes jNP tNP sEP, kit_ty_ref sVE, kit_ref_no jNT tNT sET sEE, kit_ref_no jND tND sED sEE, kit_ref_no jNU tNU sEU sEE, kit_ref_no jNS tNS sES sEE, kit_me, kit_ref_no jNF tNF sEF sEE, kit_ref_no jNA tNA sEA sEE, kit_ref_no jNL tNL sEL sEE⟩,
    ⟨kit_ref_yes jNP tNP sFP, kit_ty_ref sVF, kit_ref_no jNT tNT sFT sFF, kit_ref_no jND tND sFD sFF, kit_ref_no jNU tNU sFU sFF, kit_ref_no jNS tNS sFS sFF, kit_ref_no jNE tNE sFE sFF, kit_me, kit_ref_no jNA tNA sFA sFF, kit_ref_no jNL tNL sFL sFF⟩,
    ⟨kit_ref_yes jNP tNP sAP, kit_ty_ref sVA, kit_ref_no jNT tNT sAT sAA, kit_ref_no jND tND sAD sAA, kit_ref_no jNU tNU sAU sAA, kit_ref_no jNS tNS sAS sAA, kit_ref_no jNE tNE sAE sAA, kit_ref_no jNF tNF sAF sAA, kit_me, kit_ref_no jNL tNL sAL sAA⟩,
    ⟨kit_ref_yes jNP tNP sLP, kit_ty_ref sVL, kit_ref_no jNT tNT sLT sLL, kit_ref_no jND tND sLD sLL, kit_ref_no jNU tNU sLU sLL, kit_ref_no jNS tNS sLS sLL, kit_ref_no jNE tNE sLE sLL, kit_ref_no jNF tNF sLF sLL, kit_ref_no jNA tNA sLA sLL, kit_me⟩⟩
  have Ccl : Cl l.prog w K mg base 1 "_law_classes" (spCls K ⟨CP, CT, CD, CU, CS, CE, CF, CA, CL⟩) := ⟨f4, _, _, ok_cls F4 T N, m4, k4, b4⟩
  have Cer : Cl l.prog w K mg base 3 "_law_errors" (spErrs ⟨CP, CT, CD, CU, CS, CE, CF, CA, CL⟩) := ⟨f5, _, _, ok_errs F5 W, m5, k5, b5⟩
  have Cho : Cl l.prog w K mg base 2 "_law_holds" (spHolds ⟨CP, CT, CD, CU, CS, CE, CF, CA, CL⟩) := ⟨f6, _, _, ok_holds F6 T W Z Ccl Csa, m6, k6, b6⟩
  exact ok_law F7 T W Z Cjar Cdraw Cth Ccl Cer Cho
theorem walk {l : PySem.W.OpenLaw} {q : Program} {loose : List Str} {XP : (Str → Option Value) → Heap → Prop} {YP : World → Heap → Prop} {d : DefRec} {K : Params → PySem.W.Frag} (hn : l.most = some 63) (hdf : d.params.defaults = [])
    (hY : ∀ (w : World) (h : Heap), YP w h → (K w.params).In h)
    (F : ∀ (w : World) (mg : Str → Option Value) (fa : Addr) (h : Heap), (K w.params).In h → h.Ns mainGlobals mg → mg d.name = some (.ref fa) →
      ∃ fd : FuncData, (∀ (s : Shared) (u : Value), BindsTo s fd ⟨[u], []⟩ [("script", u)]) ∧ ∀ base : Heap, (K w.params).In base → base.Ns mainGlobals mg → FnOk l.prog w (K w.params) mg base CX0 4 fa fd ["script"] (spLaw (K w.params))) :
    PySem.W.WalkO q loose XP YP l.row.toRowW d [] (fun f vs => PySem.call f vs) :=
  L2.walk_of (n := 63) (k := 4) (x := "script") (CX := fun _ => CX0) (sp := fun w => spLaw (K w.params)) hn (by decide) hdf ⟨rfl, by decide, by decide⟩ hY F (fun _ _ a ns hl _ hS => ⟨a, ns, rfl, hS, hl, fun _ => rfl⟩) fun _ _ _ _ _ z => z
end Pd
open PySem PySem.W PyProof.Rows
set_option maxRecDepth 100000 in
set_option maxHeartbeats 0 in
theorem PySem.Challenge.cw_plaindoors_k00_errors_holds : PySem.Challenge.rw_plaindoors_k00_errors.Holds := by
  w_on; o_law; k_head; (case hw => w_witness2)
  k_fill
  refine Pd.walk (l := PySem.Challenge.rw_plaindoors_k00_errors) rfl rfl (fun w h Y => PySem.W.kIn_of Y) ?F
  case F =>
    intro w mg fa h KX G hmg
    refine' Pd.all_mk KX G hmg ?a0 ?l0 ?c0 ?k0 ?a1 ?l1 ?c1 ?k1 ?a2 ?l2 ?c2 ?k2 ?a3 ?l3 ?c3 ?k3 ?a4 ?l4 ?c4 ?k4 ?a5 ?l5 ?c5 ?k5 ?a6 ?l6 ?c6 ?k6 ?a7 ?l7 ?c7 ?k7 ?gP ?gT ?gD ?gU ?gS ?gE ?gF ?gA ?gL ?a_0 ?i_0 ?l_0 ?c_0 ?k_0 ?a_1 ?i_1 ?l_1 ?c_1 ?k_1 ?a_2 ?i_2 ?l_2 ?c_2 ?k_2 ?a_3 ?i_3 ?l_3 ?c_3 ?k_3 ?a_4 ?i_4 ?l_4 ?c_4 ?k_4 ?nV ?rg ?rd ?vV ?en ?et ?lCS ?rVS ?sXS ?iXS ?tGS ?lCE ?rVE ?sXE ?iXE ?tGE ?lCF ?rVF ?sXF ?iXF ?tGF ?lCA ?rVA ?sXA ?iXA ?tGA ?lCL ?rVL ?sXL ?iXL ?tGL ?xiP ?xiT ?xiD ?xiU ?kNP ?bNP ?tNP ?jNP ?egP ?ekP ?edP ?eaP ?emP ?sVP ?sPP ?sPT ?sPD ?sPU ?sPS ?sPE ?sPF ?sPA ?sPL ?kNT ?bNT ?tNT ?jNT ?egT ?ekT ?edT ?eaT ?emT ?sVT ?sTP ?sTT ?sTD ?sTU ?sTS ?sTE ?sTF ?sTA ?sTL ?kND ?bND ?tND ?jND ?egD ?ekD ?edD ?eaD ?emD ?sVD ?sDP ?sDT ?sDD ?sDU ?sDS ?sDE ?sDF ?sDA ?sDL ?kNU ?bNU ?tNU ?jNU ?egU ?ekU ?edU ?eaU ?emU ?sVU ?sUP ?sUT ?sUD ?sUU ?sUS ?sUE ?sUF ?sUA ?sUL ?kNS ?bNS ?tNS ?jNS ?egS ?ekS ?edS ?eaS ?emS ?sVS ?sSP ?sST ?sSD ?sSU ?sSS ?sSE ?sSF ?sSA ?sSL ?kNE ?bNE ?tNE ?jNE ?egE ?ekE ?edE ?eaE ?emE ?sVE ?sEP ?sET ?sED ?sEU ?sES ?sEE ?sEF ?sEA ?sEL ?kNF ?bNF ?tNF ?jNF ?egF ?ekF ?edF ?eaF ?emF ?sVF ?sFP ?sFT ?sFD ?sFU ?sFS ?sFE ?sFF ?sFA ?sFL ?kNA ?bNA ?tNA ?jNA ?egA ?ekA ?edA ?eaA ?emA ?sVA ?sAP ?sAT ?sAD ?sAU ?sAS ?sAE ?sAF ?sAA ?sAL ?kNL ?bNL ?tNL ?jNL ?egL ?ekL ?edL ?eaL ?emL ?sVL ?sLP ?sLT ?sLD ?sLU ?sLS ?sLE ?sLF ?sLA ?sLL ?z0 ?z1 ?z2 ?z3 ?z4 ?z5 ?z6 ?z7 ?z8 ?z9 ?z10 ?z11 ?z12 ?zs
    (case a0 => k_is); (case l0 => k_is); (case c0 => k_is); (case k0 => k_is); (case a1 => k_is); (case l1 => k_is)
    (case c1 => k_is); (case k1 => k_is); (case a2 => k_is); (case l2 => k_is); (case c2 => k_is); (case k2 => k_is)
    (case a3 => k_is); (case l3 => k_is); (case c3 => k_is); (case k3 => k_is); (case a4 => k_is); (case l4 => k_is)
    (case c4 => k_is); (case k4 => k_is); (case a5 => k_is); (case l5 => k_is); (case c5 => k_is); (case k5 => k_is)
    (case a6 => k_is); (case l6 => k_is); (case c6 => k_is); (case k6 => k_is); (case a7 => k_is); (case l7 => k_is)
    (case c7 => k_is); (case k7 => k_is); (case gP => k_is); (case gT => k_is); (case gD => k_is); (case gU => k_is)
    (case gS => k_is); (case gE => k_is); (case gF => k_is); (case gA => k_is); (case gL => k_is); (case a_0 => k_is)
    (case i_0 => k_is); (case l_0 => k_is); (case c_0 => k_is); (case k_0 => k_is); (case a_1 => k_is); (case i_1 => k_is)
    (case l_1 => k_is); (case c_1 => k_is); (case k_1 => k_is); (case a_2 => k_is); (case i_2 => k_is); (case l_2 => k_is)
    (case c_2 => k_is); (case k_2 => k_is); (case a_3 => k_is); (case i_3 => k_is); (case l_3 => k_is); (case c_3 => k_is)
    (case k_3 => k_is); (case a_4 => k_is); (case i_4 => k_is); (case l_4 => k_is); (case c_4 => k_is); (case k_4 => k_is)
    (case nV => k_is); (case rg => k_is); (case rd => k_is); (case vV => k_is); (case en => k_is); (case et => k_is)
    (case lCS => k_is); (case rVS => first | rfl | decide +kernel); (case sXS => k_is); (case iXS => k_is); (case tGS => k_is); (case lCE => k_is)
    (case rVE => first | rfl | decide +kernel); (case sXE => k_is); (case iXE => k_is); (case tGE => k_is); (case lCF => k_is); (case rVF => first | rfl | decide +kernel)
    (case sXF => k_is); (case iXF => k_is); (case tGF => k_is); (case lCA => k_is); (case rVA => first | rfl | decide +kernel); (case sXA => k_is)
    (case iXA => k_is); (case tGA => k_is); (case lCL => k_is); (case rVL => first | rfl | decide +kernel); (case sXL => k_is); (case iXL => k_is)
    (case tGL => k_is); (case xiP => k_exc); (case xiT => k_exc); (case xiD => k_exc); (case xiU => k_exc); (case kNP => k_is)
    (case bNP => k_is); (case tNP => k_is); (case jNP => k_is); (case egP => k_is); (case ekP => k_is); (case edP => k_is)
    (case eaP => k_is); (case emP => k_is); (case sVP => k_is); (case sPP => first | rfl | k_is); (case sPT => k_is); (case sPD => k_is)
    (case sPU => k_is); (case sPS => k_is); (case sPE => k_is); (case sPF => k_is); (case sPA => k_is); (case sPL => k_is)
    (case kNT => k_is); (case bNT => k_is); (case tNT => k_is); (case jNT => k_is); (case egT => k_is); (case ekT => k_is)
    (case edT => k_is); (case eaT => k_is); (case emT => k_is); (case sVT => k_is); (case sTP => k_is); (case sTT => first | rfl | k_is)
    (case sTD => k_is); (case sTU => k_is); (case sTS => k_is); (case sTE => k_is); (case sTF => k_is); (case sTA => k_is)
    (case sTL => k_is); (case kND => k_is); (case bND => k_is); (case tND => k_is); (case jND => k_is); (case egD => k_is)
    (case ekD => k_is); (case edD => k_is); (case eaD => k_is); (case emD => k_is); (case sVD => k_is); (case sDP => k_is)
    (case sDT => k_is); (case sDD => first | rfl | k_is); (case sDU => k_is); (case sDS => k_is); (case sDE => k_is); (case sDF => k_is)
    (case sDA => k_is); (case sDL => k_is); (case kNU => k_is); (case bNU => k_is); (case tNU => k_is); (case jNU => k_is)
    (case egU => k_is); (case ekU => k_is); (case edU => k_is); (case eaU => k_is); (case emU => k_is); (case sVU => k_is)
    (case sUP => k_is); (case sUT => k_is); (case sUD => k_is); (case sUU => first | rfl | k_is); (case sUS => k_is); (case sUE => k_is)
    (case sUF => k_is); (case sUA => k_is); (case sUL => k_is); (case kNS => k_is); (case bNS => k_is); (case tNS => k_is)
    (case jNS => k_is); (case egS => k_is); (case ekS => k_is); (case edS => k_is); (case eaS => k_is); (case emS => k_is)
    (case sVS => k_is); (case sSP => k_is); (case sST => k_is); (case sSD => k_is); (case sSU => k_is); (case sSS => first | rfl | k_is)
    (case sSE => k_is); (case sSF => k_is); (case sSA => k_is); (case sSL => k_is); (case kNE => k_is); (case bNE => k_is)
    (case tNE => k_is); (case jNE => k_is); (case egE => k_is); (case ekE => k_is); (case edE => k_is); (case eaE => k_is)
    (case emE => k_is); (case sVE => k_is); (case sEP => k_is); (case sET => k_is); (case sED => k_is); (case sEU => k_is)
    (case sES => k_is); (case sEE => first | rfl | k_is); (case sEF => k_is); (case sEA => k_is); (case sEL => k_is); (case kNF => k_is)
    (case bNF => k_is); (case tNF => k_is); (case jNF => k_is); (case egF => k_is); (case ekF => k_is); (case edF => k_is)
    (case eaF => k_is); (case emF => k_is); (case sVF => k_is); (case sFP => k_is); (case sFT => k_is); (case sFD => k_is)
    (case sFU => k_is); (case sFS => k_is); (case sFE => k_is); (case sFF => first | rfl | k_is); (case sFA => k_is); (case sFL => k_is)
    (case kNA => k_is); (case bNA => k_is); (case tNA => k_is); (case jNA => k_is); (case egA => k_is); (case ekA => k_is)
    (case edA => k_is); (case eaA => k_is); (case emA => k_is); (case sVA => k_is); (case sAP => k_is); (case sAT => k_is)
    (case sAD => k_is); (case sAU => k_is); (case sAS => k_is); (case sAE => k_is); (case sAF => k_is); (case sAA => first | rfl | k_is)
    (case sAL => k_is); (case kNL => k_is); (case bNL => k_is); (case tNL => k_is); (case jNL => k_is); (case egL => k_is)
    (case ekL => k_is); (case edL => k_is); (case eaL => k_is); (case emL => k_is); (case sVL => k_is); (case sLP => k_is)
    (case sLT => k_is); (case sLD => k_is); (case sLU => k_is); (case sLS => k_is); (case sLE => k_is); (case sLF => k_is)
    (case sLA => k_is); (case sLL => first | rfl | k_is); (case z0 => k_is); (case z1 => k_is); (case z2 => k_is); (case z3 => k_is)
    (case z4 => k_is); (case z5 => k_is); (case z6 => k_is); (case z7 => k_is); (case z8 => k_is); (case z9 => k_is)
    (case z10 => k_is); (case z11 => k_is); (case z12 => k_is); (case zs => k_is)
