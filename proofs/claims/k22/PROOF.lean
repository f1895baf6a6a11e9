import PyProof.Rows.All
import Wide.All
import OpenK.AllK
import Wide.FinOn
import PyProof.StrReplace2
import KE.GoesEnum
import HandS.ForMost
import HandS.IsInst
import HandS.StrMore
import HandS.Star
import HandS.Defaults
import HandS.MakeKw
import HandS.MakeKwOnly
import HandS.Wide
import HandS.Walk
import HandS.SetTxt0
import HandS.ReplaceList
import HandS.Flow
import HandS.Codes
import HandS.SlotsOwn
import HandS.TryOnly
import HandS.ExcOwn
import HandS.WordsExc
import PyProof.ListStr
import HandS.ExcIs
import HandS.ReplaceLit
import HandS.ReplaceDef
import HandS.RaiseMore
import HandS.TupAny
import HandS.SetKeys
import HandS.Rev
import PyProof.ListNew
import HandS.Style
import HandS.Strs
import HandS.ExcInit
import HandS.ClsMeth
import HandS.ExcField
import KE.KExcIs
import PyProof.NeKinds
import PyProof.InstNe
import PySem.Challenge.RW_plaindoors_k22_deeds_refused
set_option Elab.async false
set_option linter.all false
set_option maxRecDepth 100000
namespace Pd
open PySem PySem.Spec PyProof.Rows L2
/-! powers of great ints, repeated texts -/
def CPowW (i j : Int) : Prop := 0 ≤ j ∧ (Builtin.Int.intBits i : Int) * j ≤ 2 ^ 27
section
variable {X : Cx}
theorem op_powW : OpR X (binaryOp .Pow) (rI CPowW fun i j => .int (i ^ j.toNat)) :=
  opI fun _ _ _ _ _ _ _ hc q => pow_int hc.1 hc.2 q
theorem op_mulS : OpR X (binaryOp .Mult) (fun x y H Q => ∃ a n, x = .str a ∧ y = .int n ∧ PySem.MulOk a n ∧ Q (.str (Txt.mul a n)) H) := by
  intro pins s σ H x y v u Q I rx ry h
  obtain ⟨a, n, rfl, rfl, ok, q⟩ := h
  obtain ⟨t, rfl⟩ := rx
  obtain ⟨t', rfl⟩ := ry
  exact PySem.SB.mul ok fun t2 k => ⟨.str _, H, I.tok k, ⟨t2, rfl⟩, q⟩
end
theorem bits_lt {i : Int} {a : Nat} (h : i.natAbs < 2 ^ a) (h0 : 0 < a) : Builtin.Int.intBits i ≤ a := by
  have x := PySem.Flt.log2_lt_of h0 h
  unfold Builtin.Int.intBits
  split <;> omega
theorem powW_ok {i j : Int} {a : Nat} (h : i.natAbs < 2 ^ a) (h0 : 0 < a) (hj : 0 ≤ j) (hj2 : j ≤ 16) (ha : a ≤ 100000) : CPowW i j := by
  refine ⟨hj, ?_⟩
  have e := bits_lt h h0
  have e2 : (Builtin.Int.intBits i : Int) ≤ 100000 := by omega
  have e3 : (0:Int) ≤ (Builtin.Int.intBits i : Int) := by omega
  have : (Builtin.Int.intBits i : Int) * j ≤ 100000 * 16 := Int.mul_le_mul e2 hj2 hj (by omega)
  omega
end Pd

namespace Pd
open PySem PySem.Spec PyProof.Rows L2
/-! ### a set made of a text whose signs are all plain and distinct -/
abbrev freshSet (led : Bool) : Obj := { cls := .type "set", dict := none, data := .set #[] 0 (.fresh 0 0 led) }
theorem sub_ss : isSubtype (.type "str") (.type "set") = pure false := by rw [isSubtype_type]; kernel_rfl
theorem sub_sf : isSubtype (.type "str") (.type "frozenset") = pure false := by rw [isSubtype_type]; kernel_rfl
theorem run_txok {P : Program} {w : World} : ∀ (cs : List Nat) (tk : Tok) (D : Froz.SD) (l : List Str), Froz.TxOk P w D l →
    ∃ m, m.length = cs.length + l.length ∧ Froz.TxOk P w (Froz.runD w cs tk D) m
  | [], _, _, l, F => ⟨l, (Nat.zero_add _).symm, F⟩
  | c :: r, tk, D, l, F => by
    obtain ⟨m, hm, G⟩ := run_txok r (tk + 2) _ _ (Froz.add_ok (k := Froz.sing c) tk F)
    exact ⟨m, by rw [hm, List.length_cons, List.length_cons]; omega, G⟩
section
variable {prog : Program} {w : World} {A : Around} {E : Value → Shared → Prop} {s : Shared}
/-- what such a set is, as far as its length goes -/
def TxtSet (h : Heap) (a : Addr) (n : Nat) : Prop :=
  ∃ D : Froz.SD, h.get? a = some (Froz.sObj "set" D) ∧ D.2.2.fits D.1.size = true ∧ D.1.size = n
set_option maxHeartbeats 6400000 in
theorem set_of_text {x : Str} {t : Tok} {Q : Value → Shared → Prop} (hh : A.handled = none) (ha : x.cps.all (· < 128) = true)
    (hd : x.cps.toList.Nodup) (hb : x.cps.toList.length < scanBound)
    (hq : ∀ (g : Heap) (tk : Nat), TxtSet g s.heap.objs.size x.cps.toList.length →
      (∀ b o, s.heap.get? b = some o → g.get? b = some o) → Q (.ref s.heap.objs.size) { s with heap := g, toks := tk }) :
    wpAny (model prog w) A (call (.type "set") [.str x t]) Q E s := by
  obtain ⟨c, tl, hmro⟩ := PySem.F.called_set.mro
  have made := PySem.F.called_set.made
  have subs := PySem.F.called_set.sub
  refine wpAny_call (codeAny_of_tree ?_)
  show wpAny _ _ (callAny (.type "set") _) _ _ _
  refine wpAny_pure ⟨Code.quiet_builtin _ (by decide +kernel), codeAny_builtin PySem.F.entry_type_call ?_⟩
  rw [Around.under_plain (weight_type_call_type "set" [.str x t] []) rfl]
  have nt := PySem.F.called_set.notType
  have cc := PySem.F.called_set.canCreate
  have tc := PySem.F.typeCall_set_1 (.str x t)
  repeat (any_goals (first | assumption | wp_step))
  refine codeAny_mono (code_set_new_1 (.str x t) (E := E) (Q₁ := fun ob s1 => ∃ led, ob = .ref s.heap.objs.size ∧ s1 = { s with heap := s.heap.push (freshSet led) }) fun led => ⟨led, rfl, rfl⟩) fun r s1 hr => ?_
  cases r with
  | error e => exact hr
  | ok fl =>
    cases fl with
    | next => exact hr.elim
    | brk => exact hr.elim
    | cont => exact hr.elim
    | ret ob =>
      obtain ⟨led, rfl, rfl⟩ := hr
      have gS : (s.heap.push (freshSet led)).get? s.heap.objs.size = some (freshSet led) := Heap.get?_push_size _ rfl
      have tS : Shared.TypeIs { s with heap := s.heap.push (freshSet led) } (.ref s.heap.objs.size) "set" := ⟨_, gS, rfl⟩
      have li := PySem.F.called_set.init.lookup
      have bi := PySem.F.called_set.init.bind (.ref s.heap.objs.size)
      repeat (any_goals (first | assumption | wp_step))
      refine codeAny_mono (codeAny_call_builtin (R := wants (fun r s2 => r = .none ∧ ∃ g tk, s2 = { s with heap := g, toks := tk } ∧
          TxtSet g s.heap.objs.size x.cps.toList.length ∧ (∀ b o, s.heap.get? b = some o → g.get? b = some o)) E)
          PySem.F.called_set.init.plain PySem.F.entry_set_init (check_set_init_1 tS ?_)) fun r2 s2 h2 => ?_
      · have s1 := sub_ss
        have s3 := sub_sf
        have tT : Shared.TypeIs { s with heap := s.heap.push (freshSet led) } (.str x t) "str" := typeIs_str _ _ _
        have ne : (Value.type "str" == Value.type "dict") = false := by decide
        unfold Builtin.«set.__init__» noKeywords Builtin.Frozenset.updateFrom
        generalize hPI : pyIter = PI
        wp_walk
        subst hPI
        refine wpAny_pyIter_ascii ha ?_
        refine wpAny_bind (wpAny_runValue ?_)
        have e1 : (s.heap.push (freshSet led)).objs.size = s.heap.objs.size + 1 := Heap.size_push _ _
        have hne : s.heap.objs.size ≠ (s.heap.push (freshSet led)).objs.size := by omega
        have g1 : ∀ o2, ((s.heap.push (freshSet led)).push o2).get? s.heap.objs.size = some (Froz.sObj "set" (#[], 0, .fresh 0 0 led)) := fun o2 => Heap.get?_push_of_some _ gS
        have g2 : ((s.heap.push (freshSet led)).push (Froz.itObj x t 0)).get? (s.heap.push (freshSet led)).objs.size = some (Froz.itObj x t 0) := Heap.get?_push_size _ rfl
        obtain ⟨m, hm, TX⟩ := run_txok (P := prog) (w := w) x.cps.toList s.toks _ _ (Froz.TxOk.nil (ep := 0) (t := .fresh 0 0 led) rfl)
        refine Froz.code_update (P := prog) (w := w) (l := []) (D := (#[], 0, .fresh 0 0 led)) hne (by exact hh) x.cps.toList 0 _ rfl (g1 _) g2 (Froz.TxOk.nil rfl) (fun _ _ => List.not_mem_nil) hd (by simpa using hb) ?_
        refine wpAny_pure (wpAny_pure ⟨rfl, _, _, rfl, ⟨Froz.runD w x.cps.toList s.toks (#[], 0, .fresh 0 0 led), ?_, TX.fit, ?_⟩, fun b o q => ?_⟩)
        · refine Heap.get?_push_of_some _ (Heap.get?_push_of_some _ ?_)
          unfold Froz.two
          exact PySem.Heap.get?_update_of_ne _ hne.symm (Froz.get_upd _ (g1 _) rfl)
        · rw [TX.sz, hm]; rfl
        · have hb1 : b < s.heap.objs.size := Heap.lt_size q
          have b2 : (s.heap.push (freshSet led)).objs.size ≠ b := by rw [e1]; exact Nat.ne_of_gt (Nat.lt_succ_of_lt hb1)
          have b3 : s.heap.objs.size ≠ b := Nat.ne_of_gt hb1
          refine Heap.get?_push_of_some _ (Heap.get?_push_of_some _ ?_)
          unfold Froz.two
          exact PySem.Heap.get?_update_of_ne _ b2 (PySem.Heap.get?_update_of_ne _ b3 (Heap.get?_push_of_some _ (Heap.get?_push_of_some _ q)))
      · cases r2 with
        | error e => exact h2
        | ok f2 =>
          cases f2 with
          | next => exact h2.elim
          | brk => exact h2.elim
          | cont => exact h2.elim
          | ret r =>
            obtain ⟨rfl, g, tk, rfl, hS, hk⟩ := h2
            repeat (any_goals (first | assumption | wp_step))
            exact hq _ _ hS hk
end
/-- len(set(e)), e a text of plain and distinct signs -/
def tLenSetS (ta : TE) : TE := fun σ H Q => ta σ H fun v H1 => ∃ x : Str, v = .str x ∧ x.cps.all (· < 128) = true ∧ x.cps.toList.Nodup ∧ x.cps.toList.length ≤ 1000 ∧ Q (.int (x.cps.toList.length : Nat)) H1
theorem pe_lenSetS {X : Cx} {a : Expr} {ta : TE} {p p2 q pos : Pos} (hc : X.calm = true) (hg : Gl X "len") (hm : X.mg "len" = none) (hg2 : Gl X "set") (hm2 : X.mg "set" = none) (ha : PE X a ta)
    (na : starEach [a] X.env = (false, eval a X.env) :: starEach [] X.env := by rfl) : PE X (.Call (.Name "len" p) [.Call (.Name "set" p2) [a] [] q] [] pos) (tLenSetS ta) := by
  constructor
  intro pins s σ H Q I h
  apply Call_ (ld_blt I hg hm boot_len _)
  refine PyProof.Rows.callWith_builtin1 (PyProof.Rows.args_cons (Call_ (ld_blt I hg2 hm2 boot_set ?_)) rfl) rfl rfl
  refine PyProof.Rows.callWith_type1 (PyProof.Rows.args_cons (thn (ha.run pins s σ H _ I h) ?_) na) na rfl
  rintro v s1 ⟨y, H1, I1, r1, x, rfl, hx, hn, hl, q1⟩
  obtain ⟨t, rfl⟩ := r1
  refine PyProof.Rows.args_nil (set_of_text (I1.ok.hd hc) hx hn (Nat.lt_of_le_of_lt hl (by unfold scanBound; omega)) fun g tk hS hk => PyProof.Rows.args_nil ?_)
  obtain ⟨D, h1, h2, h3⟩ := hS
  have I2 : Inv X pins σ H1 { s1 with heap := g, toks := tk } := I1.kept hk
  exact call_len_set h1 ⟨rfl, rfl, rfl⟩ rfl h2 (by omega) ⟨.int _, H1, I2.tok _, ⟨_, by rw [h3]⟩, q1⟩
end Pd

namespace Pd
open PySem PySem.Spec PyProof.Rows L2
/-! ### no reader has booked a token -/
theorem unbooked {X : Cx} {pins : List (Addr × Obj)} {σ : L2.St} {H : Hp} {s : Shared} (b : NoneBooked X.base) (I : Inv X pins σ H s) : NoneBooked s.heap :=
  let ⟨mc, h1, h2⟩ := b
  ⟨mc, h1.keeps I.bk, h2⟩
theorem tkE {α : Type} {M : Model} {A : Around} {t : Sem α} {Q : α → Shared → Prop} {E : Value → Shared → Prop} {s : Shared} {n : Nat} (hn : n ≤ s.toks) (h : wpAny M A t Q E s) :
    wpAny M A t (fun a s' => n ≤ s'.toks ∧ Q a s') E s := wpAny_mono (PySem.wpAny_toks_of hn h) (fun _ _ q => q) fun _ _ q => q.2
/-! ### texts whose token is new -/
def Frsh (n m : Nat) (u : Value) : Prop := ∃ x t, u = .str x t ∧ n ≤ t ∧ t < m
structure PEF (X : Cx) (e : Expr) (t : TE) : Prop where
  run : ∀ (pins : List (Addr × Obj)) (s : Shared) (σ : L2.St) (H : Hp) (Q : VK), Inv X pins σ H s → t σ H Q →
    wpAny (model X.prog X.w) X.A (eval e X.env) (fun u s' => EP X pins σ Q u s' ∧ s.toks ≤ s'.toks ∧ Frsh (s.toks + 1) s'.toks u) X.xe s
theorem PEF.pe {X : Cx} {e : Expr} {t : TE} (h : PEF X e t) : PE X e t := ⟨fun pins s σ H Q I q => thn (h.run pins s σ H Q I q) fun _ _ z => z.1⟩
/-- a written text at a reckoned place -/
def tItemC (z : Str) (tb : TE) : TE := fun σ H Q => tb σ H fun y H2 => ∃ (i : Int) (c : Nat), y = .int i ∧ 0 ≤ i ∧ i < z.length ∧ z.length ≤ 1000 ∧ z.cps[i.toNat]? = some c ∧ Q (.str ⟨#[c]⟩) H2
theorem pef_item {X : Cx} {z : Str} {j : Nat} {cp pos : Pos} {b : Expr} {tb : TE} (hb : PE X b tb) (hs : PlainIxT b) : PEF X (.Subscript (.Constant (.str z) j cp) b pos) (tItemC z tb) := by
  constructor
  intro pins s σ H Q I h
  refine Subscript_ (Calls.Constant_str ?_)
  have I1 : Inv X pins σ H { s with toks := s.toks + 1 } := I.tok _
  refine thn (tkE (n := s.toks + 1) (Nat.le_refl _) (hb.run pins _ σ H _ I1 h)) ?_
  rintro u s2 ⟨ht, y, H2, I2, ry, i, c, rfl, h0, h1, hz, hc, q⟩
  obtain ⟨t, rfl⟩ := ry
  have e : seqIndex? i z.length = some i.toNat := PySem.StrLaws.seqIndex_nonneg h0 h1
  refine tail_any (typeIs_str s2 z s.toks) slot_str_getitem.lookup (getItem_str (c := c) ?_ (by rw [e]; exact hc) ⟨⟨.str ⟨#[c]⟩, H2, I2.tok _, ⟨_, rfl⟩, q⟩, ?_, _, _, rfl, ht, ?_⟩) (hs _ _)
  · rw [decide_eq_false (by omega), decide_eq_false (by omega)]; rfl
  · show s.toks ≤ s2.toks + 1; omega
  · show s2.toks < s2.toks + 1; omega
/-- a name of the frame, its value raw -/
structure Holds (X : Cx) (s : Shared) (x : Str) (u : Value) : Prop where
  kd : X.env.kindOf x = some .local
  at_ : ∃ m, s.heap.Ns X.env.locals m ∧ m x = some u
theorem Holds.tok {X : Cx} {s : Shared} {x : Str} {u : Value} (h : Holds X s x u) (k : Nat) : Holds X { s with toks := k } x u := ⟨h.kd, h.at_⟩
theorem Holds.load {X : Cx} {pins : List (Addr × Obj)} {σ : L2.St} {H : Hp} {s : Shared} {x : Str} {u : Value} {pos : Pos} {Q E : Value → Shared → Prop} (h : Holds X s x u) (I : Inv X pins σ H s) (q : Q u s)
    (hd : (x == ("__debug__" : Str)) = false := by decide) : wpAny (model X.prog X.w) X.A (eval (.Name x pos) X.env) Q E s := by
  obtain ⟨m, hn, hm⟩ := h.at_
  exact wpAny_Name (wpAny_loadName_local I.ok.kind h.kd hn hm q) hd
/-- a local name is stored, and its value is known -/
theorem store_raw {X : Cx} {pins : List (Addr × Obj)} {σ : L2.St} {H : Hp} {s : Shared} {M : Model} {A : Around} {E : Value → Shared → Prop} {i : Nat} {x : Str} {v : V} {u : Value} {Q : Unit → Shared → Prop}
    (I : Inv X pins σ H s) (hN : X.N.Nodup) (hi : X.N[i]? = some x) (hx : X.env.scope.names.lookup x = some .local) (r : RelV v u)
    (h : ∀ s', Inv X pins (σ.set i (some v)) H s' → Holds X s' x u → (∀ y w, y ≠ x → Holds X s y w → Holds X s' y w) → s.toks ≤ s'.toks → Q () s') : wpAny M A (storeName X.env x u) Q E s := by
  obtain ⟨m, hn, hl⟩ := id I.loc
  have hcls : (X.env.scope.kind == .class || (X.env.scope.kind == .module && X.env.locals != X.env.globals)) = false := by rw [I.ok.kind]; rfl
  have hk : X.env.kindOf x = some .local := hx
  obtain ⟨oL, _, _, hoL, _⟩ := id hn
  have hiσ : i < σ.length := by rw [I.len]; exact (List.getElem?_eq_some_iff.mp hi).1
  refine wpAny_storeName_local hk hn (fun g hg sb => ?_) hcls
  have oldL : ∀ {b o}, X.s_0.heap.get? b = some o → b ≠ X.env.locals := fun e => Nat.ne_of_lt (Nat.lt_of_lt_of_le (Heap.lt_size e) I.ok.above)
  have hok : HOk X.prog X.w H g := fun b ob e => by
    refine (I.hok b ob e).stay (fun c w' hc q => (sb.2 c ?_).trans q) (fun _ q => q) fun _ _ q => q
    rintro rfl
    rcases hc with rfl | hc
    · rw [I.free] at e; cases e
    · rw [I.free] at hc; cases hc
  have I' : Inv X pins (σ.set i (some v)) H { s with heap := g, toks := s.toks + 1 } := by
    refine ⟨I.ok, I.os, I.bare, ⟨?_, ?_, I.base.free, ?_, I.base.tups, I.base.frzs, I.base.tbls⟩, ⟨_, hg, ?_⟩, ?_, I.free, I.freeC, ?_, hok, by simpa using I.len⟩
    · intro b o e n hb hx'
      exact (sb.2 b (oldL e)).trans (I.base.keep b o e n hb hx')
    · intro b o e n hb hx'
      obtain ⟨sl, e1⟩ := I.base.slot b o e n hb hx'
      exact ⟨sl, (sb.2 b (oldL e)).trans e1⟩
    · intro b o e hx'
      obtain ⟨o', e1⟩ := I.base.there b o e hx'
      exact ⟨o', (sb.2 b (oldL e)).trans e1⟩
    · intro j y v' e1 e2 e3
      by_cases hj : j = i
      · subst hj
        rw [hi] at e1; cases e1
        rw [List.getElem?_set_self hiσ] at e2
        cases e2
        exact ⟨u, r, .inl ⟨hk, by simp⟩⟩
      · rw [List.getElem?_set_ne (Ne.symm hj)] at e2
        obtain ⟨u', r', q⟩ := hl j y v' e1 e2 e3
        refine ⟨u', r', ?_⟩
        rcases q with ⟨k, e⟩ | ⟨k, c, e, z⟩
        · refine .inl ⟨k, ?_⟩
          have nyx : y ≠ x := fun e' => hj (nodup_ix hN e1 (e' ▸ hi))
          simp [nyx, e]
        · exact .inr ⟨k, c, e, z.sameBut sb (I.cne y c e)⟩
    · intro y c e
      obtain ⟨w', z⟩ := I.cell y c e
      exact ⟨w', z.sameBut sb (I.cne y c e)⟩
    · intro p hp
      obtain ⟨e, n, ne, nf, d⟩ := I.pin p hp
      exact ⟨(sb.2 p.1 ne).trans e, n, ne, nf, d⟩
  refine h _ I' ⟨hk, _, hg, by simp⟩ (fun y w ny hy => ?_) (Nat.le_succ _)
  obtain ⟨m', hn', hm'⟩ := hy.at_
  obtain ⟨od, es, ep, h1, h2, h3, h4⟩ := id hn
  obtain ⟨od', es', ep', h1', h2', h3', h4'⟩ := id hn'
  rw [h1] at h1'; cases h1'
  rw [h2] at h2'; cases h2'
  refine ⟨hy.kd, _, hg, ?_⟩
  have : m y = some w := by rw [← hm', ← h4 y, ← h4' y]
  simp [ny, this]
/-! ### lists of texts of unlike tokens -/
/-- the texts cs, their tokens all in n .. m and unlike -/
inductive TkL : Nat → Nat → List Str → List Value → Prop where
  | nil {n m : Nat} (h : n ≤ m) : TkL n m [] []
  | cons {n k m : Nat} {c : Str} {t : Nat} {cs : List Str} {us : List Value} (h1 : n ≤ t) (h2 : t < k) (r : TkL k m cs us) : TkL n m (c :: cs) (.str c t :: us)
theorem TkL.le : ∀ {n m : Nat} {cs : List Str} {us : List Value}, TkL n m cs us → n ≤ m
  | _, _, _, _, .nil h => h
  | _, _, _, _, .cons h1 h2 r => Nat.le_trans (Nat.le_of_lt (Nat.lt_of_le_of_lt h1 h2)) r.le
theorem TkL.low {n n' m : Nat} {cs : List Str} {us : List Value} (h : TkL n m cs us) (l : n' ≤ n) : TkL n' m cs us := by
  cases h with
  | nil h => exact .nil (Nat.le_trans l h)
  | cons h1 h2 r => exact .cons (Nat.le_trans l h1) h2 r
theorem TkL.app : ∀ {n m p : Nat} {cs ds : List Str} {us vs : List Value}, TkL n m cs us → TkL m p ds vs → TkL n p (cs ++ ds) (us ++ vs)
  | _, _, _, _, _, _, _, .nil h, r => r.low h
  | _, _, _, _, _, _, _, .cons h1 h2 q, r => .cons h1 h2 (q.app r)
theorem TkL.vals : ∀ {n m : Nat} {cs : List Str} {us : List Value}, TkL n m cs us → Vals (cs.map V.str) us
  | _, _, _, _, .nil _ => .nil
  | _, _, _, _, .cons _ _ r => .cons ⟨_, rfl⟩ r.vals
/-- what stands at a place -/
theorem TkL.get : ∀ {n m : Nat} {cs : List Str} {us : List Value} {i : Nat} {c : Str}, TkL n m cs us → cs[i]? = some c → ∃ t, us[i]? = some (.str c t) ∧ n ≤ t ∧ t < m
  | _, _, _, _, _, _, .nil _, e => by simp at e
  | _, _, _, _, 0, _, .cons h1 h2 r, e => by
    simp at e; subst e
    exact ⟨_, by simp, h1, Nat.lt_of_lt_of_le h2 r.le⟩
  | _, _, _, _, i + 1, _, .cons h1 h2 r, e => by
    obtain ⟨t, e1, e2, e3⟩ := r.get (i := i) (by simpa using e)
    exact ⟨t, by simpa using e1, Nat.le_trans (Nat.le_of_lt (Nat.lt_of_le_of_lt h1 h2)) e2, e3⟩
theorem TkL.get_ge : ∀ {n m : Nat} {cs : List Str} {us : List Value} {i : Nat} {c : Str} {t : Nat}, TkL n m cs us → us[i]? = some (.str c t) → n ≤ t
  | _, _, _, _, _, _, _, .nil _, e => by simp at e
  | _, _, _, _, 0, _, _, .cons h1 h2 r, e => by
    simp at e
    obtain ⟨_, rfl⟩ := e
    exact h1
  | _, _, _, _, i + 1, _, _, .cons h1 h2 r, e => Nat.le_trans (Nat.le_of_lt (Nat.lt_of_le_of_lt h1 h2)) (TkL.get_ge r (i := i) (by simpa using e))
theorem TkL.inj : ∀ {n m : Nat} {cs : List Str} {us : List Value} {i j : Nat} {c d : Str} {t : Nat}, TkL n m cs us → us[i]? = some (.str c t) → us[j]? = some (.str d t) → c = d
  | _, _, _, _, _, _, _, _, _, .nil _, e, _ => by simp at e
  | _, _, _, _, 0, 0, _, _, _, .cons _ _ _, e, f => by
    simp at e f
    exact e.1.symm.trans f.1
  | _, _, _, _, 0, j + 1, _, _, _, .cons (k := k) h1 h2 r, e, f => by
    simp at e f
    obtain ⟨_, rfl⟩ := e
    exact absurd (Nat.lt_of_lt_of_le h2 (r.get_ge f)) (Nat.lt_irrefl _)
  | _, _, _, _, i + 1, 0, _, _, _, .cons h1 h2 r, e, f => by
    simp at e f
    obtain ⟨_, rfl⟩ := f
    exact absurd (Nat.lt_of_lt_of_le h2 (r.get_ge e)) (Nat.lt_irrefl _)
  | _, _, _, _, i + 1, j + 1, _, _, _, .cons h1 h2 r, e, f => r.inj (by simpa using e) (by simpa using f)
/-- a list of texts whose tokens are known to be unlike, and none the first -/
def TxtsAt (H : Hp) (a : Addr) (cs : List Str) : Prop :=
  ∃ (its : List Value) (n m k : Nat), H a = some (.frz { cls := .type "list", data := .seq its.toArray n } (.lst (cs.map V.str))) ∧ TkL m k cs its ∧ 1 ≤ m
theorem TxtsAt.seq {K : PySem.W.Frag} {H : Hp} {a : Addr} {cs : List Str} (h : TxtsAt H a cs) : SqL K H a (cs.map V.str) := by
  obtain ⟨its, n, m, k, e, _⟩ := h
  exact .inl (.inr ⟨_, e⟩)
theorem TxtsAt.same {H H' : Hp} {a : Addr} {cs : List Str} (h : TxtsAt H a cs) (e : H' a = H a) : TxtsAt H' a cs := by
  obtain ⟨its, n, m, k, e1, r⟩ := h
  exact ⟨its, n, m, k, e.trans e1, r⟩
/-! ### a step that swaps: its two texts' tokens are good for replace -/
def SwapAt (H : Hp) (p : Addr) (a b : Str) : Prop :=
  ∃ (n : Nat) (t0 t u : Tok), H p = some (.frz { cls := .type "tuple", data := .seq #[.str "swap" t0, .str a t, .str b u] n } (.tup [.str "swap", .str a, .str b])) ∧ t ≠ 0 ∧ u ≠ 0 ∧ (t = u → a = b)
theorem SwapAt.seq {K : PySem.W.Frag} {H : Hp} {p : Addr} {a b : Str} (h : SwapAt H p a b) : SqT K H p [.str "swap", .str a, .str b] := by
  obtain ⟨n, t0, t, u, e, _⟩ := h
  exact .inl (.inr ⟨_, e⟩)
theorem SwapAt.same {H H' : Hp} {p : Addr} {a b : Str} (h : SwapAt H p a b) (e : ∀ o u, H p = some (.frz o u) → H' p = some (.frz o u)) : SwapAt H' p a b := by
  obtain ⟨n, t0, t, u, e1, r⟩ := h
  exact ⟨n, t0, t, u, e _ _ e1, r⟩
/-- replace, whatever the tokens are -/
theorem replace_all {prog : Program} {w : World} {A : Around} {E : Value → Shared → Prop} {s : Shared} {x y z : Str} {t u v : Tok} {Q : Value → Shared → Prop} (hnb : NoneBooked s.heap) (hu : u ≠ 0) (hv : v ≠ 0) (huv : u = v → y = z)
    (hb : x.length + (x.length + 1) * z.length ≤ 16777216) (hq : ∀ t' k, Q (.str (Txt.replace x y z) t') { s with toks := k }) :
    wpAny (model prog w) A (call (.builtin "str.replace") [.str x t, .str y u, .str z v]) Q E s := by
  by_cases e : u = v
  · obtain rfl := huv e
    subst e
    have same : isSame (.str y u) (.str y u) = pure true := by
      show (if (u == 0 || u == 0) = true then _ else if (u == u) = true then pure true else _ : Sem Bool) = _
      rw [beq_eq_false_iff_ne.mpr hu, beq_self_eq_true u]
      rfl
    have g : Gives (Builtin.«str.replace» ⟨[.str x t, .str y u, .str y u], []⟩) (.val (.str x t)) := by
      show Gives (if ((Builtin.Str.occurrences x y 0 x.length (x.length + 1)).isEmpty || (y.length == 0 && y.length == 0)) = true then (do rule "str.replace.nothing"; ret (.str x t)) else
          (do let same ← isSame (.str y u) (.str y u)
              if same = true then (do rule "str.replace.old-is-new"; ret (.str x t)) else
              if Builtin.Str.tooLong (x.length + (Builtin.Str.occurrences x y 0 x.length (x.length + 1)).length * y.length) = true then unsupported "str.replace:memory" else
              retStr (Builtin.Str.glued y (Builtin.Str.partsBetween x (Builtin.Str.occurrences x y 0 x.length (x.length + 1)) y.length)))) _
      rw [same]
      cases ((Builtin.Str.occurrences x y 0 x.length (x.length + 1)).isEmpty || (y.length == 0 && y.length == 0))
      · exact .rule (.of_eq rfl)
      · exact .rule (.of_eq rfl)
    refine call_gives PySem.F.slot_str_replace (typeIs_str _ _ _) PySem.F.entry_str_replace (PySem.F.args_str_replace_3 _ _ _) g ?_
    have q := hq t s.toks
    rw [Txt.replace_self] at q
    exact q
  · exact PySem.SC.replaceA hu hv e hb hq hnb
end Pd

namespace Pd
open PySem PySem.Spec PyProof.Rows L2
/-! ### enumerate of a tuple -/
set_option maxHeartbeats 1000000 in
theorem meets_enum1 {v : Value} {o : Obj} {B : Heap → Prop} (b : Begins v o B) :
    Meets (Builtin.«enumerate.__new__» ⟨[.type "enumerate", v], []⟩) (fun _ R s => B s.heap ∧
      R (.ok (.ret (.ref (s.heap.push o).objs.size))) { s with heap := (s.heap.push o).push { cls := .type "enumerate", data := .fields #[.none, .bool false, .ref s.heap.objs.size, rawInt 0, .none, .none] } }) :=
  .of_wp fun prog w A R s h => by
    obtain ⟨hp, g, d, tk, os⟩ := s
    obtain ⟨h1, h2⟩ := h
    have hsub := sub_enumerate
    have it1 : ∀ {A' : Around} {E : Value → Shared → Prop} {Q : Value → Shared → Prop}, Q (.ref hp.objs.size) ⟨hp.push o, g, d, tk, os⟩ → wpAny (model prog w) A' (pyIter v) Q E ⟨hp, g, d, tk, os⟩ :=
      fun q => b.iter prog w _ _ ⟨hp, g, d, tk, os⟩ _ h1 q
    wp_walk using it1
    refine wpAny_stack_any fun st => wpAny_pure ?_
    split
    · rename_i c _ _ _ _ _
      cases (c == Value.type "enumerate")
      · wp_walk using it1
        exact ⟨_, rfl, h2⟩
      · wp_walk using it1
        exact ⟨_, rfl, h2⟩
    · wp_walk using it1
      exact ⟨_, rfl, h2⟩
theorem call_enum1 {prog : Program} {w : World} {A : Around} {E : Value → Shared → Prop} {s : Shared} {v : Value} {o : Obj} {B : Heap → Prop} {Q : Value → Shared → Prop} (b : Begins v o B) (h1 : B s.heap)
    (h : ∀ g, IsEnum g (s.heap.objs.size + 1) s.heap.objs.size 0 .none → g.get? s.heap.objs.size = some o →
      (∀ b o, s.heap.get? b = some o → g.get? b = some o) → Q (.ref (s.heap.objs.size + 1)) { s with heap := g }) :
    wpAny (model prog w) A (call (.type "enumerate") [v]) Q E s := by
  refine callType_new F.called_enumerate (by decide) (F.typeCall_enumerate_1 _) (F.newCall_enumerate_1 _) (fun obj => F.args_object_init_2 obj _) F.entry_enumerate_new (meets_enum1 b) ⟨h1, ?_⟩
  have z : (s.heap.push o).objs.size = s.heap.objs.size + 1 := Heap.size_push ..
  show _ ∧ _
  rw [z]
  have he := Heap.get?_push_size (s.heap.push o) (o := { cls := .type "enumerate", data := .fields #[.none, .bool false, .ref s.heap.objs.size, rawInt 0, .none, .none] }) rfl
  rw [z] at he
  exact ⟨⟨_, he, rfl⟩, h _ he (Heap.get?_push_of_some _ (Heap.get?_push_size _ b.free)) fun b o x => Heap.get?_push_of_some _ (Heap.get?_push_of_some _ x)⟩
def ItE (K : PySem.W.Frag) (a : Addr) : It :=
  ⟨fun i H => ∃ (xs : List V) (x : V), SqT K H a xs ∧ xs[i]? = some x, fun i H v H' => ∃ T x, v = .ref T ∧ H T = none ∧ H' = upd H T (.tup [.int (i : Nat), x]) ∧ ∀ xs, SqT K H a xs → xs[i]? = some x, fun i H => ∃ xs : List V, SqT K H a xs ∧ xs.length = i⟩
theorem turn_enumT {P : Program} {w : World} {K : PySem.W.Frag} {elts : List Expr} {kk : Nat} {tpos : Pos} (a e it : Addr) :
    Turn P w K (.Tuple elts kk tpos) (ItE K a) [e, it] e (fun i h => (∃ old, IsEnum h e it ((i : Nat) : Int) old) ∧ h.IsTupleIter it a i ∧ e ≠ it ∧ a ≠ it ∧ e ≠ a) where
  mem := by simp
  obj := fun i h st b hb => by
    obtain ⟨⟨old, he⟩, ⟨o, ho, hc, hd⟩, _⟩ := st
    have z : b = e ∨ b = it := by simpa using hb
    rcases z with rfl | rfl
    · exact ⟨_, he, fun v q => nomatch q⟩
    · exact ⟨o, ho, fun v q => by rw [hd] at q; cases q⟩
  keep := fun i h h' st k => let ⟨⟨old, he⟩, hi, hne⟩ := st; ⟨⟨old, k e (by simp) _ he⟩, hi.at fun o q => k it (by simp) o q, hne⟩
  item := by
    intro X hP hw hK hc i pins s σ H E I hf st hg
    subst hP hw hK
    obtain ⟨⟨old, he⟩, hit, hne, hai, hea⟩ := st
    obtain ⟨xs, x, hq, hx⟩ := hg
    obtain ⟨its, rv, p, hz⟩ := I.tuple hq
    obtain ⟨u, hu, ru⟩ := rv.get hx
    have hel : e < s.heap.objs.size := Heap.lt_size he
    have hil : it < s.heap.objs.size := by obtain ⟨_, q, _⟩ := hit; exact Heap.lt_size q
    have lt : i < its.toArray.size := by
      have := (List.getElem?_eq_some_iff.mp hu).1
      simpa using this
    refine wpAny_pyNext_enum_itemD (Draws.tuple (prog := X.prog) (w := X.w) (A := X.A.in1) (by exact I.ok.hd hc) it a hai its.toArray) he ⟨hit, p⟩ lt hne (by simp [hne, hea]) fun y g tk hy ho st' hT hsz hk => ?_
    have ey : y = u := by
      have : its[i]? = some y := by simpa using hy
      rw [hu] at this
      exact (Option.some.inj this).symm
    subst ey
    refine ⟨_, rfl, wpAny_letOwnedTupleGo_enum (s := { s with heap := g, toks := tk + 1 }) ho fun g2 he' sb => ?_⟩
    have hT2 : g2.get? s.heap.objs.size = some { cls := .type "tuple", data := .seq #[.int i tk, y] } := (sb.2 _ (Nat.ne_of_gt hel)).trans hT
    have new : ObjOk X.prog X.w (upd H s.heap.objs.size (.tup [.int (i : Nat), x])) g2 s.heap.objs.size (.tup [.int (i : Nat), x]) :=
      ⟨by show 2 ≤ sizeLine; decide, [.int i tk, y], .cons ⟨_, rfl⟩ (.cons ru .nil), ⟨_, hT2, rfl, _, rfl⟩⟩
    have I1 : Inv X pins σ (upd H s.heap.objs.size (.tup [.int (i : Nat), x])) { s with heap := g2, toks := tk + 1 } :=
      I.turnedNew (ch := [e, it]) (fun b ob hb q => (sb.2 b (fun z => hb (by simp [z]))).trans (hk b ob (fun z => hb (by simp [z])) (fun z => hb (by simp [z])) q)) hf (Nat.le_refl _) new
    refine ⟨.ref s.heap.objs.size, _, I1, rfl, ⟨_, x, rfl, I.hok.fresh (Nat.le_refl _), rfl, fun ys hy => by rw [I.tuple_inj hy hq]; exact hx⟩, ⟨⟨y, ?_⟩, st'.1.at fun o q => (sb.2 it (Ne.symm hne)).trans q, hne, hai, hea⟩, fun b hb => ?_⟩
    · have e1 : ((i + 1 : Nat) : Int) = (i : Int) + 1 := by omega
      rw [e1]; exact he'
    · have hb' : b < s.heap.objs.size := by
        have z : b = e ∨ b = it := by simpa using hb
        rcases z with rfl | rfl
        · exact hel
        · exact hil
      rw [upd_ne (Nat.ne_of_lt hb')]
      exact (hf b hb).1
  done := by
    intro X hP hw hK hc i pins s σ H E I hf st hg
    subst hP hw hK
    obtain ⟨⟨old, he⟩, hit, hne, hai, hea⟩ := st
    obtain ⟨xs, hq, hx⟩ := hg
    obtain ⟨its, rv, p, hz⟩ := I.tuple hq
    obtain ⟨f0, f1, f2, f3, f4, f5⟩ := hf it (by simp)
    have hl : its.toArray.size = i := by rw [List.size_toArray, ← rv.length, hx]
    refine wpAny_pyNext_enum_endD (i := ((i : Nat) : Int)) (Draws.tuple (prog := X.prog) (w := X.w) (A := X.A.in1) (by exact I.ok.hd hc) it a hai its.toArray) he (by rw [hl]; exact ⟨hit, p⟩) fun g eb => ⟨rfl, I.turned (t' := s.toks) (fun b o hb q => eb b o hb q) f0 f1 f3 f4 f5⟩
  self := fun A i s Q E st h => let ⟨⟨_, he⟩, _⟩ := st; wpAny_pyIter_enum he h
def iEnumT (K : PySem.W.Frag) (ta : TA) : TI := fun σ H R => ta σ H fun vs H1 => ∃ a xs, vs = [.ref a] ∧ SqT K H1 a xs ∧ R (ItE K a) H1
theorem pi_enumT {X : Cx} {e : Expr} {ta : TA} {p pos tpos : Pos} {elts : List Expr} {kk : Nat} (hg : Gl X "enumerate") (hm : X.mg "enumerate" = none) (ha : PA X [e] ta) (hs : starEach [e] X.env = [(false, eval e X.env)] := by rfl) :
    PI X (.Tuple elts kk tpos) (.Call (.Name "enumerate" p) [e] [] pos) (iEnumT X.K ta) := by
  constructor
  intro pins s σ H R I h
  refine Call_ (ld_blt I hg hm boot_enumerate (PyProof.Rows.callWith_type1 (thn (ha.run pos pins s σ H _ I h) ?_) hs rfl))
  rintro us s1 ⟨vs, H1, I1, r1, a, xs, rfl, hq, q⟩
  obtain ⟨u, rfl, r⟩ := vals1 r1
  cases r
  obtain ⟨its, rv, p', hz⟩ := I1.tuple hq
  refine call_enum1 (begins_tuple a its.toArray) p' fun g he hit hk => wpAny_pyIter_enum he ?_
  have I2 : Inv X pins σ H1 { s1 with heap := g } := I1.kept (t' := s1.toks) hk
  have al : a < s1.heap.objs.size := p'.lt
  have st : (∃ old, IsEnum g (s1.heap.objs.size + 1) s1.heap.objs.size ((0 : Nat) : Int) old) ∧ g.IsTupleIter s1.heap.objs.size a 0 ∧ (s1.heap.objs.size + 1) ≠ s1.heap.objs.size ∧ a ≠ s1.heap.objs.size ∧ (s1.heap.objs.size + 1) ≠ a :=
    ⟨⟨.none, he⟩, ⟨_, hit, rfl, rfl⟩, Nat.succ_ne_self _, Nat.ne_of_lt al, Nat.ne_of_gt (Nat.lt_succ_of_lt al)⟩
  refine ⟨s1.heap.objs.size + 1, [s1.heap.objs.size + 1, s1.heap.objs.size], _, _, H1, rfl, I2, turn_enumT a (s1.heap.objs.size + 1) s1.heap.objs.size, st, fun b hb => ?_, q⟩
  have z : b = s1.heap.objs.size + 1 ∨ b = s1.heap.objs.size := by simpa using hb
  have hle : s1.heap.objs.size ≤ b := by
    rcases z with rfl | rfl
    · exact Nat.le_add_right _ _
    · exact Nat.le_refl _
  exact I1.fpOk hle (I1.hok.fresh hle)
/-- a for over it: at each turn a new pair -/
theorem walk_enumT {K : PySem.W.Frag} {a : Addr} {xs : List V} : Walk (ItE K a) xs.length (fun H => SqT K H a xs) (YPair (fun i => some (.int (i : Nat))) (fun i => xs[i]?)) := by
  refine ⟨fun i _ hi q => ⟨xs, xs[i], q, by simp [hi]⟩, fun _ q => ⟨xs, q, rfl⟩, fun i H v H' _ q y => ?_⟩
  obtain ⟨T, x, h1, h2, h3, h4⟩ := y
  exact ⟨T, .int (i : Nat), x, h1, h2, h3, rfl, h4 xs q⟩
/-! ### text.replace(step[1], step[2]), step a swap -/
def tRepl (to : TE) (i : Nat) : TE := fun σ H Q => to σ H fun v H1 => ∃ x p a b, v = .str x ∧ σ[i]? = some (some (.ref p)) ∧ SwapAt H1 p a b ∧ x.length + (x.length + 1) * b.length ≤ 16777216 ∧ Q (.str (Txt.replace x a b)) H1
/-- a local name that holds an object -/
theorem name_ref {X : Cx} {pins : List (Addr × Obj)} {σ : L2.St} {H : Hp} {s : Shared} {i : Nat} {x : Str} {p : Addr} {pos : Pos} {Q E : Value → Shared → Prop} (hN : X.N[i]? = some x) (hv : X.env.scope.names.lookup x = some .local) (I : Inv X pins σ H s)
    (hσ : σ[i]? = some (some (.ref p))) (q : Q (.ref p) s) (hd : (x == ("__debug__" : Str)) = false := by decide) : wpAny (model X.prog X.w) X.A (eval (.Name x pos) X.env) Q E s := by
  obtain ⟨m, hn, hl⟩ := I.loc
  obtain ⟨u, r, l⟩ := hl i x _ hN hσ (.inl hv)
  obtain rfl : u = Value.ref p := r
  rcases l with ⟨hk, hm⟩ | ⟨hk, _⟩
  · exact wpAny_Name (wpAny_loadName_local I.ok.kind hk hn hm q) hd
  · have hv' : X.env.kindOf x = some .local := hv
    rw [hv'] at hk
    rcases hk with hk | hk <;> cases hk
/-- an item at a written place of a tuple whose object is known -/
theorem item_raw {X : Cx} {pins : List (Addr × Obj)} {σ : L2.St} {H : Hp} {s : Shared} {i : Nat} {x : Str} {p : Addr} {its : Array Value} {k : Int} {j : Nat} {w : Value} {p1 cp pos : Pos} {Q E : Value → Shared → Prop} (hN : X.N[i]? = some x)
    (hv : X.env.scope.names.lookup x = some .local) (I : Inv X pins σ H s) (hσ : σ[i]? = some (some (.ref p))) (ht : s.heap.IsTuple p its) (h0 : 0 ≤ k) (h1 : k < its.size) (hz : its.size ≤ 1000) (hw : its[k.toNat]? = some w) (fin : ∀ tk, Q w { s with toks := tk })
    (hs : PlainIx (.Constant (.int k) j cp)) (hd : (x == ("__debug__" : Str)) = false := by decide) :
    wpAny (model X.prog X.w) X.A (eval (.Subscript (.Name x p1) (.Constant (.int k) j cp) pos) X.env) Q E s := by
  refine Subscript_ (name_ref hN hv I hσ (wpAny_Constant_int ?_) hd)
  exact subscriptTail_builtinR (x := w) ht.typeIs slot_tuple_getitem.lookup
    (getItem_tuple (j := k.toNat) (Q := fun r s' => r = w ∧ Q r s') ht (by omega) (by omega) (by rw [seqIndex_of h0 h1]) hw ⟨rfl, fin _⟩) (hs _ _)
theorem pe_replT {X : Cx} {i : Nat} {kx : Str} {o : Expr} {to : TE} {j0 j1 : Nat} {p2 p3 c0 c1 q0 q1 apos pos : Pos} (nb : NoneBooked X.base) (ho : PE X o to) (hN : X.N[i]? = some kx) (hv : X.env.scope.names.lookup kx = some .local) (hd : (kx == ("__debug__" : Str)) = false := by decide)
    (hst : starEach [.Subscript (.Name kx p2) (.Constant (.int 1) j0 c0) q0, .Subscript (.Name kx p3) (.Constant (.int 2) j1 c1) q1] X.env =
      [(false, eval (.Subscript (.Name kx p2) (.Constant (.int 1) j0 c0) q0) X.env), (false, eval (.Subscript (.Name kx p3) (.Constant (.int 2) j1 c1) q1) X.env)] := by rfl)
    (hbase : attributeBase o "replace" X.env (eval o X.env) = eval o X.env := by rfl) (hline : (apos.endLine == pos.line) = true := by rfl) :
    PE X (.Call (.Attribute o "replace" apos) [.Subscript (.Name kx p2) (.Constant (.int 1) j0 c0) q0, .Subscript (.Name kx p3) (.Constant (.int 2) j1 c1) q1] [] pos) (tRepl to i) := by
  constructor
  intro pins s σ H Q I h
  refine PySem.Call_method2 hbase hst hline (thn (ho.run pins s σ H _ I h) ?_)
  rintro v s1 ⟨y, H1, I1, r1, x, p, a, b, rfl, hσ, ⟨n, t0, t, u, hp, ht, hu, htu⟩, hz, q⟩
  obtain ⟨tx, rfl⟩ := r1
  obtain ⟨hob, _⟩ := I1.hok p _ hp
  have tup : ∀ k, ({ s1 with toks := k } : Shared).heap.IsTuple p #[.str "swap" t0, .str a t, .str b u] := fun k => ⟨_, hob, rfl, n, rfl⟩
  refine ⟨"str", _, F.plainAttrs_str, F.slot_str_replace, F.type_str_replace, typeIs_str _ _ _, (fun _ e => nomatch e), Calls.callWith_builtin rfl (Calls.evalArgs_plain (Calls.spliced_cons ?_))⟩
  refine item_raw hN hv I1 hσ (tup s1.toks) (by decide) (by show (1:Int) < ((3:Nat):Int); decide) (by show 3 ≤ 1000; decide) rfl (fun k1 => ?_) (fun _ _ => rfl) hd
  refine Calls.spliced_cons (item_raw hN hv (I1.tok k1) hσ (tup k1) (by decide) (by show (2:Int) < ((3:Nat):Int); decide) (by show 3 ≤ 1000; decide) rfl (fun k2 => Calls.spliced_nil ?_) (fun _ _ => rfl) hd)
  exact replace_all (s := { s1 with toks := k2 }) (unbooked nb (I1.tok k2)) ht hu htu hz fun t' k => ⟨.str (Txt.replace x a b), H1, I1.tok k, ⟨t', rfl⟩, q⟩
end Pd

namespace Pd
open PySem PySem.Spec PyProof.Rows L2
/-! ### way, sign = .., signs[..]; the returns by way; the one of a swap by known tokens -/
section
variable {X : Cx} {pins : List (Addr × Obj)} {σ : L2.St} {H : Hp} {s : Shared}
theorem test_int {i : Nat} {x : Str} {n k : Int} {j : Nat} {p1 cp pos : Pos} {whole : Sem Value} {Q : Bool → Shared → Prop} {E : Value → Shared → Prop} (hN : X.N[i]? = some x) (hv : X.env.scope.names.lookup x = some .local) (I : Inv X pins σ H s)
    (hσ : σ[i]? = some (some (.int n))) (q : Q (n == k) { s with toks := s.toks + 1 }) (hd : (x == ("__debug__" : Str)) = false := by decide) :
    wpAny (model X.prog X.w) X.A (isTrue (.Compare (.Name x p1) [.Eq] [.Constant (.int k) j cp] pos) X.env whole) Q E s := by
  obtain ⟨m, hn, hl⟩ := I.loc
  obtain ⟨u, r, l⟩ := hl i x _ hN hσ (.inl hv)
  obtain ⟨t, rfl⟩ := r
  rcases l with ⟨hk, hm⟩ | ⟨hk, _⟩
  · exact wpAny_isTrue_Compare1 (wpAny_Name (wpAny_loadName_local I.ok.kind hk hn hm (wpAny_Constant_int (eq_int (wpAny_truthy_bool q)))) hd)
  · have hv' : X.env.kindOf x = some .local := hv
    rw [hv'] at hk
    rcases hk with hk | hk <;> cases hk
/-- an item of a list of texts, its token known -/
theorem pick_raw {ig : Nat} {gx : Str} {a : Addr} {cs : List Str} {its : List Value} {n m k : Nat} {idx : Expr} {ti : TE} {p1 pos : Pos} {R : Value → Shared → Prop} (hN : X.N[ig]? = some gx) (hv : X.env.scope.names.lookup gx = some .local) (I : Inv X pins σ H s)
    (hσ : σ[ig]? = some (some (.ref a))) (hi : PE X idx ti) (hs : PlainIx idx) (tk : TkL m k cs its) (hz : cs.length ≤ 1000)
    {C : V → Hp → Prop} (h : ti σ H C) (hC : ∀ y H2, C y H2 → ∃ (i : Int) (c : Str), y = .int i ∧ H2 a = some (.frz { cls := .type "list", data := .seq its.toArray n } (.lst (cs.map V.str))) ∧ 0 ≤ i ∧ cs[i.toNat]? = some c ∧
      ∀ s2 t, Inv X pins σ H2 s2 → its[i.toNat]? = some (.str c t) → m ≤ t → s.toks ≤ s2.toks → R (.str c t) s2) (hd : (gx == ("__debug__" : Str)) = false := by decide) :
    wpAny (model X.prog X.w) X.A (eval (.Subscript (.Name gx p1) idx pos) X.env) R X.xe s := by
  refine Subscript_ (name_ref hN hv I hσ (thn (tkE (Nat.le_refl s.toks) (hi.run pins s σ H _ I h)) ?_) hd)
  rintro u s2 ⟨ht, y, H2, I2, ry, hy⟩
  obtain ⟨i, c, rfl, hf, h0, hc, q⟩ := hC y H2 hy
  obtain ⟨t, rfl⟩ := ry
  obtain ⟨hob, _⟩ := I2.hok a _ hf
  obtain ⟨t2, e, l1, l2⟩ := tk.get hc
  have lst : s2.heap.IsList a its.toArray := ⟨_, hob, rfl, n, rfl⟩
  have hb : i.toNat < cs.length := (List.getElem?_eq_some_iff.mp hc).1
  exact item_listR lst h0 (by omega) (by simpa using e) (q s2 t2 I2 e l1 ht) (hs _ _)
end
def tSwap (iw is ig : Nat) (t1 ti ti2 : TE) (t0 tr : TS) : TS := fun D σ H => t1 σ H fun x H1 => ∃ (n : Int) (a : Addr) (cs : List Str), x = .int n ∧ σ[ig]? = some (some (.ref a)) ∧ cs.length ≤ 1000 ∧ TxtsAt H1 a cs ∧
  ti σ H1 fun y H2 => ∃ (i : Int) (c : Str), y = .int i ∧ H2 a = H1 a ∧ 0 ≤ i ∧ cs[i.toNat]? = some c ∧
  (n = 0 → t0 { D with nx := fun _ _ => False } ((σ.set iw (some (.int n))).set is (some (.str c))) H2) ∧
  (n = 1 → ti2 ((σ.set iw (some (.int n))).set is (some (.str c))) H2 fun y2 H3 => ∃ (j : Int) (d : Str), y2 = .int j ∧ H3 a = H2 a ∧ 0 ≤ j ∧ cs[j.toNat]? = some d ∧
    ∀ p H4, H3 p = none → SwapAt H4 p c d → (∀ b, b ≠ p → H4 b = H3 b) → D.rt (.ref p) H4) ∧
  (n ≠ 0 → n ≠ 1 → tr D ((σ.set iw (some (.int n))).set is (some (.str c))) H2)
set_option maxHeartbeats 1000000 in
theorem pss_swap {X : Cx} {iw is ig : Nat} {wx sx gx : Str} {e1 idx idx2 : Expr} {t1 ti ti2 : TE} {t0 tr : TS} {r0 rest : List Stmt} {k0 k1 k2 : Nat} {j0 j1 j2 : Nat}
    {a1 a2 a3 a4 a5 a6 a7 b1 b2 b3 b4 c1 c2 c3 c4 c5 c6 c7 c8 c9 c10 : Pos} (hc : X.calm = true) (hN : X.N.Nodup)
    (hw : X.N[iw]? = some wx) (hs : X.N[is]? = some sx) (hg : X.N[ig]? = some gx) (n1 : iw ≠ is) (n2 : ig ≠ iw) (n3 : ig ≠ is)
    (lw : X.env.scope.names.lookup wx = some .local) (ls : X.env.scope.names.lookup sx = some .local) (lg : X.env.scope.names.lookup gx = some .local)
    (h1 : PE X e1 t1) (hi : PE X idx ti) (hi2 : PE X idx2 ti2) (p1 : PlainIx idx) (p2 : PlainIx idx2) (h0 : PSs X r0 t0) (hr : PSs X rest tr)
    (dw : (wx == ("__debug__" : Str)) = false) (ds : (sx == ("__debug__" : Str)) = false) (dg : (gx == ("__debug__" : Str)) = false)
    (hst : starEach [e1, .Subscript (.Name gx a1) idx a2] X.env = [(false, eval e1 X.env), (false, eval (.Subscript (.Name gx a1) idx a2) X.env)])
    (hst2 : starEach [.Constant (.str "swap") j2 c5, .Name sx c6, .Subscript (.Name gx c7) idx2 c8] X.env = [(false, eval (.Constant (.str "swap") j2 c5) X.env), (false, eval (.Name sx c6) X.env), (false, eval (.Subscript (.Name gx c7) idx2 c8) X.env)])
    (hsw : swappedStores [.Tuple [.Name wx a3, .Name sx a4] k0 a5] (.Tuple [e1, .Subscript (.Name gx a1) idx a2] k1 a6) X.env = pure (some [wx, sx]))
    (hss : swapsWithSole [.Tuple [.Name wx a3, .Name sx a4] k0 a5] (.Tuple [e1, .Subscript (.Name gx a1) idx a2] k1 a6) a7.line X.env = pure false) :
    PSs X (.Assign [.Tuple [.Name wx a3, .Name sx a4] k0 a5] (.Tuple [e1, .Subscript (.Name gx a1) idx a2] k1 a6) a7
      :: .If (.Compare (.Name wx b1) [.Eq] [.Constant (.int 0) j0 b2] b3) r0 [] b4
      :: .If (.Compare (.Name wx c1) [.Eq] [.Constant (.int 1) j1 c2] c3) [.Return (some (.Tuple [.Constant (.str "swap") j2 c5, .Name sx c6, .Subscript (.Name gx c7) idx2 c8] k2 c9)) c4] [] c10
      :: rest) (tSwap iw is ig t1 ti ti2 t0 tr) := by
  constructor
  intro pins s σ H D I h
  refine wpAny_execs_cons ?_
  rw [exec_Assign_arm]
  refine wpAny_bind (wpAny_standAt ?_)
  rw [hss]
  refine wpAny_bind (wpAny_pure ?_)
  rw [if_neg (by decide)]
  refine wpAny_bind (Tuple_ ?_)
  rw [hst]
  show wpAny _ _ (spliced ((false, eval e1 X.env) :: [(false, eval (.Subscript (.Name gx a1) idx a2) X.env)])) _ _ s
  refine Calls.spliced_cons (thn (h1.run pins s σ H _ I h) ?_)
  rintro u1 s1 ⟨x, H1, I1, r1, n, a, cs, rfl, hσ, hz, ⟨its, nn, m, k, hf, tk, hm⟩, h2⟩
  refine Calls.spliced_cons (pick_raw (n := nn) hg lg I1 hσ hi p1 tk hz h2 ?_ dg)
  rintro y H2 ⟨i, c, rfl, ha, h0', hcs, w0, w1, w2⟩
  refine ⟨i, c, rfl, ha.trans hf, h0', hcs, fun s2 t I2 e2 hmt hst' => Calls.spliced_nil ?_⟩
  obtain ⟨tn, rfl⟩ := r1
  refine wpAny_newObj_type ?_ (by show 2 ≤ sizeLine; decide)
  have I3 : Inv X pins σ H2 { s2 with heap := s2.heap.push { cls := .type "tuple", data := .seq [Value.int n tn, .str c t].toArray } } := I2.kept (t' := s2.toks) fun b o e => Heap.get?_push_of_some _ e
  rw [hsw]
  refine wpAny_bind (wpAny_pure ?_)
  show wpAny (model X.prog X.w) X.A (do rule "assign.swapped-stores"; let items ← unpackItems (.ref s2.heap.objs.size) 2 none; assignInOrder [fun v => bindName X.env sx v, fun v => bindName X.env wx v] items.reverse; pure Flow.next) _ _ _
  refine wpAny_bind (wpAny_rule (wpAny_bind (unpackItems_tuple (items := #[Value.int n tn, .str c t]) (I.ok.hd hc) (IsTup.new s2.heap _) fun g hx' => ?_)))
  have I4 := I3.kept (h' := g) (t' := s2.toks) fun b o e => hx' b o (Nat.ne_of_lt (Heap.lt_size e)) e
  show wpAny _ _ (assignInOrder [fun v => bindName X.env sx v, fun v => bindName X.env wx v] [Value.str c t, .int n tn] >>= fun _ => pure Flow.next) _ _ _
  refine wpAny_bind (assignInOrder_cons (wpAny_bindName (store_raw (v := V.str c) I4 hN hs ls ⟨t, rfl⟩ fun s3 I5 K5 _ _ => ?_)))
  refine assignInOrder_cons (wpAny_bindName (store_raw (v := V.int n) I5 hN hw lw ⟨tn, rfl⟩ fun s4 I6 _ keep6 _ => assignInOrder_nil (wpAny_pure ?_)))
  have K6 : Holds X s4 sx (.str c t) := keep6 sx _ (fun e => n1 (nodup_ix hN hw (e ▸ hs))) K5
  rw [List.set_comm _ _ (Ne.symm n1)] at I6
  have hl : σ.length = X.N.length := I.len
  have lw1 : iw < σ.length := by rw [hl]; exact (List.getElem?_eq_some_iff.mp hw).1
  have sw : ((σ.set iw (some (V.int n))).set is (some (.str c)))[iw]? = some (some (.int n)) := by
    rw [List.getElem?_set_ne (Ne.symm n1), List.getElem?_set_self lw1]
  have sg : ((σ.set iw (some (V.int n))).set is (some (.str c)))[ig]? = some (some (.ref a)) := by
    rw [List.getElem?_set_ne (Ne.symm n3), List.getElem?_set_ne (Ne.symm n2)]; exact hσ
  generalize hS : (σ.set iw (some (V.int n))).set is (some (.str c)) = σ' at *
  -- if way == 0
  refine wpAny_execs_cons (wpAny_If (test_int hw lw I6 sw ?_ dw))
  by_cases e0 : n = 0
  · have e : (n == 0) = true := by simp [e0]
    rw [e]
    refine thn (h0.run pins _ σ' H2 _ (I6.tok _) (w0 e0)) fun f s5 q => ?_
    cases f with
    | next => obtain ⟨_, _, _, z⟩ := q; exact z.elim
    | ret v => exact q
    | brk => exact q
    | cont => exact q
  · have e : (n == 0) = false := by simp [e0]
    rw [e]
    refine wpAny_execs_nil ?_
    -- if way == 1
    refine wpAny_execs_cons (wpAny_If (test_int hw lw (I6.tok _) sw ?_ dw))
    by_cases e1 : n = 1
    · have e : (n == 1) = true := by simp [e1]
      rw [e]
      refine wpAny_execs_cons (wpAny_Return_some (Tuple_ ?_))
      rw [hst2]
      show wpAny _ _ (spliced ((false, eval (.Constant (.str "swap") j2 c5) X.env) :: (false, eval (.Name sx c6) X.env) :: [(false, eval (.Subscript (.Name gx c7) idx2 c8) X.env)])) _ _ _
      refine Calls.spliced_cons (Calls.Constant_str (Calls.spliced_cons ?_))
      refine ((K6.tok _).tok _).load (((I6.tok _).tok _).tok _) (Calls.spliced_cons ?_) ds
      refine pick_raw (n := nn) hg lg (((I6.tok _).tok _).tok _) sg hi2 p2 tk hz (w1 e1) ?_ dg
      rintro y2 H3 ⟨j, d, rfl, ha3, hj, hd, fin⟩
      refine ⟨j, d, rfl, ha3.trans (ha.trans hf), hj, hd, fun s5 t2 I7 e7 hmt2 _ => Calls.spliced_nil ?_⟩
      refine wpAny_newTuple ?_ (by show 3 ≤ sizeLine; decide)
      have new : H3 s5.heap.objs.size = none := I7.hok.fresh (Nat.le_refl _)
      refine ⟨.ref s5.heap.objs.size, σ', upd H3 s5.heap.objs.size (.frz { cls := .type "tuple", data := .seq #[.str "swap" s4.toks.succ.succ, .str c t, .str d t2] 0 } (.tup [.str "swap", .str c, .str d])), ?_, rfl, fin _ _ new ⟨0, _, t, t2, upd_same, Nat.ne_of_gt (Nat.lt_of_lt_of_le hm hmt), Nat.ne_of_gt (Nat.lt_of_lt_of_le hm hmt2), fun z => ?_⟩ fun b hb => upd_ne hb⟩
      · refine I7.laid (t' := s5.toks) (fun b o q => Heap.get?_push_of_some _ q) (Nat.le_refl _) ⟨Heap.get?_push_size _ rfl, by show 3 ≤ sizeLine; decide, [.str "swap" _, .str c t, .str d t2], .cons ⟨_, rfl⟩ (.cons ⟨_, rfl⟩ (.cons ⟨_, rfl⟩ .nil)), ⟨_, Heap.get?_push_size _ rfl, rfl, _, rfl⟩⟩
      · subst z
        exact tk.inj e2 e7
    · have e : (n == 1) = false := by simp [e1]
      rw [e]
      exact wpAny_execs_nil (hr.run pins _ σ' H2 D ((I6.tok _).tok _) (w2 e0 e1))
end Pd

namespace Pd
open PySem PySem.Spec PyProof.Rows L2
/-! ### a comprehension over a range whose items are new texts: the list stays untracked, its tokens are known -/
theorem TkL.snoc : ∀ {n m p t : Nat} {c : Str} {cs : List Str} {us : List Value}, TkL n m cs us → m ≤ t → t < p → TkL n p (cs ++ [c]) (us ++ [.str c t])
  | _, _, _, _, _, _, _, r, h1, h2 => r.app (.cons h1 h2 (.nil (Nat.le_refl _)))
theorem TkL.up : ∀ {n m m' : Nat} {cs : List Str} {us : List Value}, TkL n m cs us → m ≤ m' → TkL n m' cs us
  | _, _, _, _, _, .nil h, l => .nil (Nat.le_trans h l)
  | _, _, _, _, _, .cons h1 h2 r, l => .cons h1 h2 (r.up l)
set_option maxHeartbeats 2000000 in
theorem lcT {X : Cx} {pins : List (Addr × Obj)} {s : Shared} {σ : L2.St} {H : Hp} {elt iter : Expr} {kx : Str} {ik : Nat} {px pos : Pos} {scope : Scope} {own : List (Str × Nat)} {ta : TA} {te : TE} {R : Value → Shared → Prop}
    (hc : X.calm = true) (hN : X.N.Nodup) (I : Inv X pins σ H s) (hi : PI X (.Name kx px) iter (iRng1 ta)) (ok : BlkOk X.N X.env.scope scope own) (hik : ik ∈ own.map (·.2))
    (hg : ∀ (s : Shared) (H : Hp) (C : Addr) (cl : List (Str × Addr)) (fp : List Addr), PG (X.blk s H scope (compEnvC scope cl C X.env) fp) (.Name kx px) (gName ik))
    (he : ∀ (s : Shared) (H : Hp) (C : Addr) (cl : List (Str × Addr)) (fp : List Addr), PEF (X.blk s H scope (compEnvC scope cl C X.env) fp) elt te)
    (hs : ∀ x, foldedSetIterable iter X.env x = pure x) {R0 : It → Hp → Prop} (h : iRng1 ta σ H R0)
    (hR : ∀ J H1, R0 J H1 → ∃ (n : Nat) (P : Nat → Hp → Prop) (G : Str → Prop), J = Itr 0 n ∧ n ≤ 1000 ∧ P 0 H1 ∧
      (∀ i H2, i < n → P i H2 → te ((wipe σ (own.map (·.2))).set ik (some (.int (0 + i)))) H2 fun y H3 => ∃ c, y = .str c ∧ G c ∧ P (i + 1) H3) ∧
      ∀ D cs its nn s' H', Inv X pins σ H' s' → P n H' → cs.length = n → (∀ c ∈ cs, G c) → TkL (s.toks + 1) (s'.toks + 1) cs its → s.toks ≤ s'.toks →
        s'.heap.get? D = some { cls := .type "list", data := .seq its.toArray nn } → H' D = none → R (.ref D) s') :
    wpAny (model X.prog X.w) X.A (eval (.ListComp elt [⟨.Name kx px, iter, [], 0⟩] scope pos) X.env) R X.xe s := by
  rw [eval_ListComp]
  have hfree : ∀ y ∈ scope.names, y.2 = .free → ∃ c, X.env.cells.lookup y.1 = some c := fun y hy e => by
    rcases ok.free y hy e with k | k
    · exact I.ok.has _ (.inl k)
    · exact I.ok.has _ (.inr k)
  refine wpAny_comprehension_free (use := none) rfl hs (closure_ok hfree) ok.kind (fun y hy e => by rw [ok.uniq y hy, e]) (thn (tkE (Nat.le_refl s.toks) (hi.run pins s σ H R0 I h)) ?_)
  rintro xv s1 ⟨l1, hx⟩
  refine thn (tkE l1 hx) ?_
  rintro itv s2 ⟨l2, it, fp, tn, J, H2, rfl, I2, T, st2, f2, q⟩
  obtain ⟨n, P, G, rfl, hn, p0, turn, fin⟩ := hR _ _ q
  refine wpAny_newObj_type (newEnv_comp ?_) (by show 0 ≤ sizeLine; decide)
  generalize hD : s2.heap.objs.size = D
  have dn : H2 D = none := I2.hok.fresh (Nat.le_of_eq hD)
  generalize hs3 : ({ s2 with heap := s2.heap.push { cls := .type "list", data := .seq ([] : List Value).toArray } } : Shared) = s3
  have I3 : Inv X pins σ H2 s3 := by
    rw [← hs3]
    exact I2.kept (t' := s2.toks) fun b o e => Heap.get?_push_of_some _ e
  have t3 : s3.toks = s2.toks := by rw [← hs3]
  have h3 : s3.heap = s2.heap.push { cls := .type "list", data := .seq ([] : List Value).toArray } := by rw [← hs3]
  have gD : s3.heap.get? D = some { cls := .type "list", data := .seq ([] : List Value).toArray } := by
    rw [h3, ← hD]
    exact Heap.get?_push_size _ rfl
  have sz : ∀ b ∈ fp, b < s2.heap.objs.size := fun b hb => by
    obtain ⟨o, e, _⟩ := T.obj _ _ st2 b hb
    exact Heap.lt_size e
  have nDf : D ∉ fp := fun z => Nat.lt_irrefl _ (by have := sz D z; rw [hD] at this; exact this)
  have f3 : ∀ b ∈ D :: fp, FpOk X pins H2 b ∧ b < s3.heap.objs.size := fun b hb => by
    rcases List.mem_cons.mp hb with rfl | hb
    · exact ⟨I2.fpOk (Nat.le_of_eq hD) dn, Heap.lt_size gD⟩
    · exact ⟨f2 b hb, by rw [h3, Heap.size_push]; exact Nat.lt_succ_of_lt (sz b hb)⟩
  have st3 : tn 0 s3.heap := T.keep _ _ _ st2 fun b _ o e => by rw [h3]; exact Heap.get?_push_of_some _ e
  have I4 := block_start I3 ok hN f3
  have pg := hg s3 H2 s3.heap.objs.size (cellsFrom (s3.heap.objs.size + 1) scope.names (cloFrom X.env.cells scope.names [])) (D :: fp)
  have pe := he s3 H2 s3.heap.objs.size (cellsFrom (s3.heap.objs.size + 1) scope.names (cloFrom X.env.cells scope.names [])) (D :: fp)
  show codeAny _ _ (.compStart (.ListComp elt [⟨.Name kx px, iter, [], 0⟩] scope pos) 0 (.ref it) (.ref D) (compEnvC scope (cellsFrom (s3.heap.objs.size + 1) scope.names (cloFrom X.env.cells scope.names [])) s3.heap.objs.size X.env)) (compPost (model X.prog X.w) X.A X.xe none R (.ref D) s3.heap.objs.size) { s3 with heap := pushCells (s3.heap.push { cls := .type "dict", data := .dict #[] }) scope.names }
  generalize hce : compEnvC scope (cellsFrom (s3.heap.objs.size + 1) scope.names (cloFrom X.env.cells scope.names [])) s3.heap.objs.size X.env = ce at I4 pg pe ⊢
  have cL : ce.locals = s3.heap.objs.size := by subst hce; rfl
  have up3 : ∀ b o, s3.heap.get? b = some o → (pushCells (s3.heap.push { cls := .type "dict", data := .dict #[] }) scope.names).get? b = some o := fun b o e => pushCells_keeps _ _ _ _ (Heap.get?_push_of_some _ e)
  generalize hs4 : ({ s3 with heap := pushCells (s3.heap.push { cls := .type "dict", data := .dict #[] }) scope.names } : Shared) = s4 at I4 ⊢
  have t4 : s4.toks = s2.toks := by rw [← hs4]; exact t3
  have st4 : tn 0 s4.heap := T.keep _ _ _ st3 fun b _ o e => by rw [← hs4]; exact up3 b o e
  have gD4 : s4.heap.get? D = some { cls := .type "list", data := .seq ([] : List Value).toArray } := by rw [← hs4]; exact up3 _ _ gD
  have stat : ∀ {σ' : L2.St} {H' : Hp} {s' : Shared}, Inv (X.blk s3 H2 scope ce (D :: fp)) [] σ' H' s' → (∀ b ∈ D :: fp, H' b = none) → ∀ b ∈ D :: fp, FpOk (X.blk s3 H2 scope ce (D :: fp)) [] H' b := fun {σ' H' s'} I' hn b hb =>
    ⟨hn b hb, (I'.ok.exf b hb).1, I'.ok.exfs b hb, .inl hb, fun x c e => (I'.ok.exf b hb).2 x c e, fun p hp => absurd (show p ∈ ([] : List (Addr × Obj)) ++ [] from hp) (by simp)⟩
  have loop : codeAny (model X.prog X.w) X.A (.compLoop (.ListComp elt [⟨.Name kx px, iter, [], 0⟩] scope pos) 0 (.ref it) (.ref D) ce) (compPost (model X.prog X.w) X.A X.xe none R (.ref D) s3.heap.objs.size) s4 := by
    refine compLoop_any (fun m s' => ∃ i H' cs its nn, m = n - i ∧ i ≤ n ∧ Inv (X.blk s3 H2 scope ce (D :: fp)) [] (wipe σ (own.map (·.2))) H' s' ∧ tn i s'.heap ∧ (∀ b ∈ D :: fp, H' b = none) ∧ P i H' ∧ cs.length = i ∧ (∀ c ∈ cs, G c) ∧
      TkL (s.toks + 1) (s'.toks + 1) cs its ∧ s.toks ≤ s'.toks ∧ s'.heap.get? D = some { cls := .type "list", data := .seq its.toArray nn }) ?_ n
      ⟨0, H2, [], [], 0, (Nat.sub_zero _).symm, Nat.zero_le _, I4, st4, fun b hb => (f3 b hb).1.1, p0, rfl, (fun _ z => nomatch z), .nil (by omega), by omega, gD4⟩
    rintro m s5 ⟨i, H5, cs, its, nn, rfl, hi', I5, st5, n5, pi, hcs, hG, tk, ts, g5⟩
    have I5' : Inv (X.blk s3 H2 scope ce (D :: fp)) ([] ++ pinsAt [D] s5.heap) (wipe σ (own.map (·.2))) H5 s5 :=
      I5.pinned (fp := [D]) (fun b hb => stat I5 n5 b (by rw [List.mem_singleton.mp hb]; exact List.mem_cons_self)) fun b hb => by
        rw [List.mem_singleton.mp hb]
        exact ⟨_, g5, fun v z => nomatch z⟩
    have pinD : ∀ {pl : List (Addr × Obj)} {σ' : L2.St} {H' : Hp} {s' : Shared}, Inv (X.blk s3 H2 scope ce (D :: fp)) (([] ++ pinsAt [D] s5.heap) ++ pl) σ' H' s' → s'.heap.get? D = some { cls := .type "list", data := .seq its.toArray nn } ∧ H' D = none := fun J =>
      let z := J.pin (D, _) (List.mem_append_right _ (List.mem_append_left _ (List.mem_append_right _ (mem_pinsAt (List.mem_singleton.mpr rfl) g5))))
      ⟨z.1, z.2.1⟩
    have stat5 : ∀ {σ' : L2.St} {H' : Hp} {s' : Shared}, Inv (X.blk s3 H2 scope ce (D :: fp)) ([] ++ pinsAt [D] s5.heap) σ' H' s' → (∀ b ∈ fp, H' b = none) → ∀ b ∈ fp, FpOk (X.blk s3 H2 scope ce (D :: fp)) ([] ++ pinsAt [D] s5.heap) H' b := fun {σ' H' s'} I' hn' b hb => by
      have hb' : b ∈ D :: fp := List.mem_cons_of_mem _ hb
      refine ⟨hn' b hb, (I'.ok.exf b hb').1, I'.ok.exfs b hb', .inl hb', fun x c e => (I'.ok.exf b hb').2 x c e, fun p hp => ?_⟩
      have hp' : p ∈ pinsAt [D] s5.heap := by simpa using hp
      have e := (of_pinsAt hp').1
      rw [List.mem_singleton.mp e]
      exact fun z => nDf (z ▸ hb)
    by_cases hlt : i < n
    · have ti := T.item (X.blk s3 H2 scope ce (D :: fp)) rfl rfl rfl hc i _ s5 _ H5 (fun _ _ => False) I5' (stat5 I5' fun b hb => n5 b (List.mem_cons_of_mem _ hb)) st5 hlt
      refine thnF (tkE (Nat.le_refl s5.toks) ti) ?_
      rintro r s6 ⟨l6, u, rfl, h6⟩
      refine thnF (tkE l6 h6) ?_
      rintro _ s7 ⟨l7, x, H7, I7, r7, ⟨rfl, rfl⟩, st7, n7⟩
      have I7' := I7.pinned (stat5 I7 n7) (T.obj _ _ st7)
      refine thnF (tkE l7 (pg.run _ s7 _ H7 (V.int (0 + i)) u (fun σ' H' => σ' = (wipe σ (own.map (·.2))).set ik (some (.int (0 + i))) ∧ H' = H7) I7' r7 ⟨rfl, rfl⟩)) ?_
      rintro _ s8 ⟨l8, σ8, H8, I8, rfl, rfl⟩
      refine wpAny_tests_nil ?_
      simp only [if_true]
      refine thnF (pe.run _ s8 _ _ _ I8 (turn i _ hlt pi)) ?_
      rintro z s10 ⟨⟨yv, H10, I10, r10, c, rfl, gc, p10⟩, l10, xz, tz, rfl, lz1, lz2⟩
      have ec : xz = c := by
        obtain ⟨tq, eq⟩ := r10
        injection eq
      subst ec
      obtain ⟨gD10, dn10⟩ := pinD I10
      have its10 : its.toArray.size ≤ sizeLine := by
        have e := tk.vals.length
        rw [List.length_map] at e
        rw [List.size_toArray, sizeLine_eq]; omega
      refine append_at (hsz := its10) gD10 fun g sb hg' => ?_
      have keepfp : ∀ b ∈ fp, ∀ o, s7.heap.get? b = some o → s10.heap.get? b = some o ∧ H10 b = none := fun b hb o e =>
        let z := I10.pin (b, o) (List.mem_append_right _ (List.mem_append_right _ (mem_pinsAt hb e)))
        ⟨z.1, z.2.1⟩
      have hl : (wipe σ (own.map (·.2))).length = ((wipe σ (own.map (·.2))).set ik (some (V.int (0 + i)))).length := by simp
      have J10 : Inv (X.blk s3 H2 scope ce (D :: fp)) [] (wipe σ (own.map (·.2))) H10 s10 := by
        refine (((I10.unpinned).unpinned) : Inv (X.blk s3 H2 scope ce (D :: fp)) [] _ H10 s10).weak hl fun j v e => ?_
        obtain ⟨e1, e2⟩ := wipe_some e
        have nji : ik ≠ j := fun z => e2 (z ▸ hik)
        rw [List.getElem?_set_ne nji]
        exact e
      have fD := stat J10 (fun b hb => by
        rcases List.mem_cons.mp hb with rfl | hb
        · exact dn10
        · obtain ⟨o, e, _⟩ := T.obj _ _ st7 b hb
          exact (keepfp b hb o e).2) D List.mem_cons_self
      obtain ⟨f0, f1, f2', f3', f4, f5⟩ := fD
      have J11 : Inv (X.blk s3 H2 scope ce (D :: fp)) [] (wipe σ (own.map (·.2))) H10 { s10 with heap := g } := J10.turned (t' := s10.toks) (fun b o hb e => (sb.2 b hb).trans e) f0 f1 f3' f4 f5
      refine ⟨n - (i + 1), by omega, i + 1, H10, cs ++ [xz], its ++ [.str xz tz], nn + 1, rfl, hlt, J11, ?_, ?_, p10, ?_, ?_, ?_, ?_, ?_⟩
      · refine T.keep _ _ _ st7 fun b hb o e => ?_
        exact (sb.2 b (fun z => nDf (z ▸ hb))).trans (keepfp b hb o e).1
      · intro b hb
        rcases List.mem_cons.mp hb with rfl | hb
        · exact dn10
        · obtain ⟨o, e, _⟩ := T.obj _ _ st7 b hb
          exact (keepfp b hb o e).2
      · rw [List.length_append, hcs]; rfl
      · intro c' hc'
        rcases List.mem_append.mp hc' with h' | h'
        · exact hG c' h'
        · rw [List.mem_singleton.mp h']; exact gc
      · exact (tk.up (Nat.succ_le_succ l8)).snoc lz1 (Nat.lt_succ_of_lt lz2)
      · exact Nat.le_trans ts (Nat.le_trans l8 l10)
      · rw [hg']
        simp
    · have ein : i = n := by omega
      subst ein
      have td := T.done (X.blk s3 H2 scope ce (D :: fp)) rfl rfl rfl hc i _ s5 _ H5 (fun _ _ => False) I5' (stat5 I5' fun b hb => n5 b (List.mem_cons_of_mem _ hb)) st5 (Nat.le_refl _)
      refine thnF (tkE (Nat.le_refl s5.toks) td) ?_
      rintro r s6 ⟨l6, rfl, I6⟩
      obtain ⟨gD6, dn6⟩ := pinD (pl := []) (by simpa using I6)
      have I7 : Inv X pins σ H5 s6 := I3.call' (ch := D :: fp) I6.os I6.base I6.hok I6.bare fun b hb => ⟨(f3 b hb).1.2.2.2.1, (f3 b hb).1.2.1, (f3 b hb).1.2.2.2.2.1, (f3 b hb).1.2.2.2.2.2⟩
      have nC : H5 s3.heap.objs.size = none := by
        have z : H5 ce.locals = none := I6.free
        rw [cL] at z
        exact z
      obtain ⟨mm, hn', _⟩ := I6.loc
      have hn' : s6.heap.Ns ce.locals mm := hn'
      rw [cL] at hn'
      obtain ⟨f0, f1, f2', f3', f4, f5⟩ := I3.fpOk (H' := H5) (Nat.le_refl _) nC
      refine ⟨mm, hn', fun g sb => ?_⟩
      have neDC : D ≠ s3.heap.objs.size := Nat.ne_of_lt (Heap.lt_size gD)
      exact fin D cs its nn _ H5 (I7.turned (t' := s6.toks) (fun b o hb e => (sb.2 b hb).trans e) f0 f1 f3' f4 f5) pi hcs hG (tk.up (Nat.succ_le_succ l6)) (Nat.le_trans ts l6) ((sb.2 D neDC).trans gD6) dn6
  exact codeAny_compStart_list loop (T.self X.A 0 _ _ _ st4 loop)
end Pd

namespace Pd
open PySem PySem.Spec PyProof.Rows L2
/-! ### a def that gives a new text -/
def FnT (P : Program) (w : World) (K : PySem.W.Frag) (mg : Str → Option Value) (base : Heap) (CX : CXT) (k : Nat) (f : Addr) (sp : Sp) : Prop :=
  ∀ (A : Around) (outer : List Env) (s : Shared) (H : Hp) (us : List Value) (vs : List V) (Q : VK) (E : XK), Room k A → Env0 P w K mg base A outer s H → Vals vs us → sp vs H Q E →
    codeAny (model P w) A (.call (.ref f) ⟨us, []⟩) (fun r s' => CR CX outer P w H s Q E r s' ∧ ∀ u, r = .ok (.ret u) → s.toks ≤ s'.toks ∧ Frsh (s.toks + 1) s'.toks u) s
theorem FnT.fnR {P : Program} {w : World} {K : PySem.W.Frag} {mg : Str → Option Value} {base : Heap} {CX : CXT} {k : Nat} {f : Addr} {sp : Sp} (F : FnT P w K mg base CX k f sp) : FnR P w K mg base CX k f sp :=
  fun A outer s H us vs Q E hr e0 r h => codeAny_mono (F A outer s H us vs Q E hr e0 r h) fun _ _ z => z.1
theorem fnT_ret {P : Program} {w : World} {K : PySem.W.Frag} {mg : Str → Option Value} {base : Heap} {x qual : Str} {st : Stmt} {f : Addr} {fd : FuncData} {N ps : List Str} {k : Nat} {sp : Sp} {e : Expr} {rpos : Pos}
    (F : Fun K x qual st f fd) (S : FnScope N ps (defScope st)) (hst : defBody st = [.Return (some e) rpos])
    (hb : ∀ (kV doc pm : Value) (an : Option Addr) (cdv ct : Value) (us : List Value), us.length = ps.length → bindArgs (PySem.W.fnOf x qual (defArgs st) (defBody st) (defScope st) .none kV doc pm an cdv ct) ⟨us, []⟩ = pure (ps.zip us))
    (len : ∀ vs H Q E, sp vs H Q E → vs.length = ps.length)
    (hbody : ∀ (cdv : Value) (A : Around) (outer : List Env) (s : Shared) (H : Hp) (vs : List V) (Q : VK) (E : XK), Room k (A.deeper (envOfC qual (defScope st) s.heap.objs.size f cdv)) → sp vs H Q E →
      ∃ t, PEF (cxOf CX0 P w K mg base N qual (defScope st) f cdv A outer s H E) e t ∧ t (start N vs) H Q) : FnT P w K mg base CX0 (k + 1) f sp := by
  obtain ⟨oc, od, kV, doc, pm, an, cdv, ct, osl, rfl, lk, hcd⟩ := F.ex
  intro A outer s H us vs Q E hr e0 r hsp
  have hl : us.length = ps.length := r.length.symm.trans (len _ _ _ _ hsp)
  have KX : K.In s.heap := e0.mod.kin.keeps fun b o e => (e0.bs b o e).1
  have lim : s.heap.NoLimit := e0.mod.nolimit.keeps fun b o e => (e0.bs b o e).1
  have hkind : ∀ y ∈ ps.zip us, (defScope st).names.lookup y.1 = some .local ∨ ((defScope st).names.lookup y.1 = some .cell ∧ ((cellsFrom (s.heap.objs.size + 1) (defScope st).names []).lookup y.1).isSome = true) := fun y hy => by
    rcases S.par y.1 (List.of_mem_zip hy).1 with q | q
    · exact .inl q
    · exact .inr ⟨q, PySem.W.cellsFrom_some _ _ _ (.inl q)⟩
  refine codeAny_call_function hr.depth (KX _ _ lk) rfl S.co S.gen rfl (PySem.W.codeRec_of KX hcd) (BindsTo.of_eq (hb kV doc pm an cdv ct us hl) _ _ _ _ ?_)
  refine wpAny_mono (tkE (Nat.le_refl s.toks) (wpAny_newFunctionEnv_cells S.kind hkind fun env he s1 x => (⟨he, x⟩ : env = _ ∧ InCallC s _ _ _ _ s1))) ?_ fun _ _ z => z
  rintro env s1 ⟨ht, rfl, x⟩
  refine ⟨lim.keeps x.toInCall.keep, codeAny_func ?_⟩
  obtain ⟨t, he, hq⟩ := hbody cdv A outer s H vs Q E (hr.deeper _) hsp
  have I : Inv (cxOf CX0 P w K mg base N qual (defScope st) f cdv A outer s H E) [] (start N vs) H s1 := inv_start S hr.hd e0 (len _ _ _ _ hsp) r x
  rw [hst]
  refine wpAny_execs_cons (wpAny_Return_some (wpAny_mono (he.run [] s1 _ H Q I hq) ?_ fun e s' z => ?_))
  · rintro u s' ⟨⟨v, H', J, rv, q⟩, l1, xz, tz, rfl, l2, l3⟩
    refine ⟨⟨v, H', J.os, J.bare, J.base, J.hok, rv, q⟩, fun u' eu => ?_⟩
    injection eu with eu
    injection eu with eu
    subst eu
    exact ⟨Nat.le_trans ht l1, xz, tz, rfl, Nat.le_trans (Nat.succ_le_succ ht) l2, l3⟩
  · exact wpAny_mono z (fun _ s'' h => ⟨h, fun _ e => nomatch e⟩) fun _ s'' h => ⟨h, fun _ e => nomatch e⟩
theorem pef_call {X : Cx} {k : Nat} {f : Addr} {sp : Sp} {E : XK} {x : Str} {e : Expr} {es : List Expr} {t : TA} {p pos : Pos} {CX : CXT} (F : FnT X.prog X.w X.K X.mg X.base CX k f sp) (hr : Room k X.A) (hg : Gl X x) (hm : X.mg x = some (.ref f)) (hk : PySem.W.keepIn X.K (.ref f) = true)
    (hx : Passes CX X E) (ha : PA X (e :: es) t) (hdb : (x == ("__debug__" : Str)) = false := by decide) (he : starEach (e :: es) X.env = (false, eval e X.env) :: starEach es X.env := by rfl) (hpl : (backTo pos (starEach es X.env)).any (·.1) = false := by rfl) :
    PEF X (.Call (.Name x p) (e :: es) [] pos) (fun σ H Q => t σ H fun vs H1 => sp vs H1 Q E) := by
  constructor
  intro pins s σ H Q I h
  refine wpAny_Call_Name_kw (ld_glob I hg hm ?_ hdb)
  refine PySem.W.callWith_K (h₀ := X.base) I.ok.mod.kin hk (thn (tkE (Nat.le_refl s.toks) (ha.run pos pins s σ H _ I h)) ?_) he hpl
  rintro us s1 ⟨l1, vs, H1, I1, r, q⟩
  refine ⟨I1.kIn, wpAny_call (codeAny_mono (F X.A X.stack s1 H1 us vs Q E hr I1.env0 r q) fun r s' hq => ?_)⟩
  obtain ⟨hq, h2⟩ := hq
  cases r with
  | error e => exact hx pins σ H1 s1 e s' I1 hq
  | ok fl =>
    cases fl with
    | next => exact False.elim hq
    | brk => exact False.elim hq
    | cont => exact False.elim hq
    | ret u =>
      obtain ⟨l2, xz, tz, rfl, l3, l4⟩ := h2 u rfl
      exact ⟨I1.after hq, Nat.le_trans l1 l2, xz, tz, rfl, Nat.le_trans (Nat.succ_le_succ l1) l3, l4⟩
/-- x(e, ..) by a promise of its positional arguments -/
theorem pe_callR {X : Cx} {k : Nat} {f : Addr} {sp : Sp} {E : XK} {x : Str} {e : Expr} {es : List Expr} {t : TA} {p pos : Pos} {CX : CXT} (F : FnR X.prog X.w X.K X.mg X.base CX k f sp) (hr : Room k X.A) (hg : Gl X x) (hm : X.mg x = some (.ref f)) (hk : PySem.W.keepIn X.K (.ref f) = true)
    (hx : Passes CX X E) (ha : PA X (e :: es) t) (hdb : (x == ("__debug__" : Str)) = false := by decide) (he : starEach (e :: es) X.env = (false, eval e X.env) :: starEach es X.env := by rfl) (hpl : (backTo pos (starEach es X.env)).any (·.1) = false := by rfl) :
    PE X (.Call (.Name x p) (e :: es) [] pos) (fun σ H Q => t σ H fun vs H1 => sp vs H1 Q E) := by
  constructor
  intro pins s σ H Q I h
  refine wpAny_Call_Name_kw (ld_glob I hg hm ?_ hdb)
  refine PySem.W.callWith_K (h₀ := X.base) I.ok.mod.kin hk (thn (ha.run pos pins s σ H _ I h) ?_) he hpl
  rintro us s1 ⟨vs, H1, I1, r, q⟩
  exact ⟨I1.kIn, wpAny_call (run_fnR F hr hx I1 r q)⟩
end Pd

namespace Pd
open PySem PySem.Spec PyProof.Rows L2
/-! ### letter = ..; found = [letter, letter.upper(), .., ' ']; return found + [.. for k in range(..)] -/
def four (x1 x2 : Str) : List Str := [x1, Txt.upper x1, x2, " "]
def tSigns (z1 z2 : Str) (il ifd ik : Nat) (own : List Nat) (tb1 tb2 : TE) (ta : TA) (te : TE) : TS := fun D σ H => tItemC z1 tb1 σ H fun v1 H1 => ∃ x1 : Str, v1 = .str x1 ∧ x1.length ≤ 1000 ∧
  tItemC z2 tb2 (σ.set il (some (.str x1))) H1 fun v2 H2 => ∃ x2 : Str, v2 = .str x2 ∧ ∀ a H3, H2 a = none → (∃ o, H3 a = some (.frz o (.lst ((four x1 x2).map .str)))) → (∀ b, b ≠ a → H3 b = H2 b) →
    iRng1 ta ((σ.set il (some (.str x1))).set ifd (some (.ref a))) H3 fun J H4 => ∃ (n : Nat) (P : Nat → Hp → Prop) (G : Str → Prop), J = Itr 0 n ∧ n ≤ 1000 ∧ P 0 H4 ∧
      (∀ i H5, i < n → P i H5 → te ((wipe ((σ.set il (some (.str x1))).set ifd (some (.ref a))) own).set ik (some (.int (0 + i)))) H5 fun y H6 => ∃ c, y = .str c ∧ G c ∧ P (i + 1) H6) ∧
      ∀ cs H', P n H' → cs.length = n → (∀ c ∈ cs, G c) → H' a = H3 a ∧ ∀ p H4, H' p = none → TxtsAt H4 p (four x1 x2 ++ cs) → (∀ b, b ≠ p → H4 b = H' b) → D.rt (.ref p) H4
set_option maxHeartbeats 2000000 in
theorem pss_signs {X : Cx} {z1 z2 : Str} {il ifd ik : Nat} {lx fx kx : Str} {b1 b2 elt iter : Expr} {tb1 tb2 te : TE} {ta : TA} {scope : Scope} {own : List (Str × Nat)} {j1 j2 j3 : Nat}
    {a1 a2 c1 c2 c3 d1 d2 d3 d4 p1 p2 p3 q1 q2 q3 q4 q5 px pos : Pos} (hc : X.calm = true) (hN : X.N.Nodup) (hl : X.N[il]? = some lx) (hf : X.N[ifd]? = some fx) (n1 : il ≠ ifd)
    (ll : X.env.scope.names.lookup lx = some .local) (lf : X.env.scope.names.lookup fx = some .local) (h1 : PE X b1 tb1) (h2 : PE X b2 tb2) (s1 : PlainIxT b1) (s2 : PlainIxT b2)
    (hi : PI X (.Name kx px) iter (iRng1 ta)) (ok : BlkOk X.N X.env.scope scope own) (hik : ik ∈ own.map (·.2))
    (hg : ∀ (s : Shared) (H : Hp) (C : Addr) (cl : List (Str × Addr)) (fp : List Addr), PG (X.blk s H scope (compEnvC scope cl C X.env) fp) (.Name kx px) (gName ik))
    (he : ∀ (s : Shared) (H : Hp) (C : Addr) (cl : List (Str × Addr)) (fp : List Addr), PEF (X.blk s H scope (compEnvC scope cl C X.env) fp) elt te)
    (hs : ∀ x, foldedSetIterable iter X.env x = pure x) (dl : (lx == ("__debug__" : Str)) = false) (df : (fx == ("__debug__" : Str)) = false)
    (hs1 : swapsWith (.Subscript (.Constant (.str z1) j1 c1) b1 d1) (some (.Name lx a1)) p1.line X.env = pure false)
    (hs2 : swapsWith (.List [.Name lx q1, .Call (.Attribute (.Name lx q2) "upper" q3) [] [] q4, .Subscript (.Constant (.str z2) j2 c2) b2 d2, .Constant (.str " ") j3 c3] d3) (some (.Name fx a2)) p2.line X.env = pure false)
    (hst : starEach [.Name lx q1, .Call (.Attribute (.Name lx q2) "upper" q3) [] [] q4, .Subscript (.Constant (.str z2) j2 c2) b2 d2, .Constant (.str " ") j3 c3] X.env =
      [(false, eval (.Name lx q1) X.env), (false, eval (.Call (.Attribute (.Name lx q2) "upper" q3) [] [] q4) X.env), (false, eval (.Subscript (.Constant (.str z2) j2 c2) b2 d2) X.env), (false, eval (.Constant (.str " ") j3 c3) X.env)])
    (hbase : attributeBase (.Name lx q2) "upper" X.env (eval (.Name lx q2) X.env) = eval (.Name lx q2) X.env) (hline : (q3.endLine == q4.line) = true) :
    PSs X [.Assign [.Name lx a1] (.Subscript (.Constant (.str z1) j1 c1) b1 d1) p1,
      .Assign [.Name fx a2] (.List [.Name lx q1, .Call (.Attribute (.Name lx q2) "upper" q3) [] [] q4, .Subscript (.Constant (.str z2) j2 c2) b2 d2, .Constant (.str " ") j3 c3] d3) p2,
      .Return (some (.BinOp (.Name fx q5) .Add (.ListComp elt [⟨.Name kx px, iter, [], 0⟩] scope pos) d4)) p3] (tSigns z1 z2 il ifd ik (own.map (·.2)) tb1 tb2 ta te) := by
  constructor
  intro pins s σ H D I h
  refine wpAny_execs_cons (wpAny_Assign_Name (thn ((pef_item h1 s1).run pins s σ H _ I h) ?_) hs1)
  rintro u1 t1 ⟨⟨v1, H1, I1, r1, x1, rfl, hx1, h'⟩, l1, y1, k1, rfl, k1a, k1b⟩
  have e1 : y1 = x1 := by
    obtain ⟨tq, eq⟩ := r1
    injection eq
  subst e1
  refine store_raw (v := V.str y1) I1 hN hl ll r1 fun t2 I2 K2 _ l2 => ?_
  refine wpAny_execs_cons (wpAny_Assign_Name (wpAny_List_spliced ?_) hs2)
  rw [hst]
  show wpAny _ _ (spliced ((false, eval (.Name lx q1) X.env) :: (false, eval (.Call (.Attribute (.Name lx q2) "upper" q3) [] [] q4) X.env) :: (false, eval (.Subscript (.Constant (.str z2) j2 c2) b2 d2) X.env) :: [(false, eval (.Constant (.str " ") j3 c3) X.env)])) _ _ _
  refine Calls.spliced_cons (K2.load I2 (Calls.spliced_cons ?_) dl)
  refine PySem.Call_method0 hbase hline (K2.load I2 ?_ dl)
  refine ⟨"str", _, F.plainAttrs_str, F.slot_str_upper, F.type_str_upper, typeIs_str _ _ _, (fun _ e => nomatch e), Calls.callWith_builtin rfl (PySem.evalArgs_none ?_)⟩
  have fit : Builtin.Str.tooLong (Txt.upper y1).length = false := PyProof.Rows.short24 (by have := PyProof.Rows.len_upper y1; omega)
  refine PySem.SC.upper fit (Calls.spliced_cons ?_)
  refine thn ((pef_item h2 s2).run pins _ _ H1 _ (I2.tok _) h') ?_
  rintro u3 t3 ⟨⟨v2, H2, I3, r3, x2, rfl, hx2⟩, l3, y3, k3, rfl, k3a, k3b⟩
  have e3 : y3 = x2 := by
    obtain ⟨tq, eq⟩ := r3
    injection eq
  subst e3
  refine Calls.spliced_cons (Calls.Constant_str (Calls.spliced_nil ⟨by show 4 ≤ sizeLine; decide, ?_⟩))
  have lay : ∀ {o : Obj} {u : HO}, ObjOk X.prog X.w (upd H2 t3.heap.objs.size u) (t3.heap.push o) t3.heap.objs.size u → Inv X pins (σ.set il (some (V.str y1))) (upd H2 t3.heap.objs.size u) { t3 with heap := t3.heap.push o, toks := t3.toks + 1 } :=
    fun w => I3.laid (t' := t3.toks + 1) (fun b o q => Heap.get?_push_of_some _ q) (Nat.le_refl _) w
  have tk4 : TkL (s.toks + 1) (t3.toks + 1) (four y1 y3) [.str y1 k1, .str (Txt.upper y1) t2.toks, .str y3 k3, .str " " t3.toks] := by
    refine .cons (k := t2.toks) k1a (Nat.lt_of_lt_of_le k1b l2) (.cons (k := t2.toks + 1) (Nat.le_refl _) (Nat.lt_succ_self _) (.cons (k := t3.toks) ?_ k3b (.cons (k := t3.toks + 1) (Nat.le_refl _) (Nat.lt_succ_self _) (.nil (Nat.le_refl _)))))
    exact Nat.le_of_succ_le k3a
  have I4 := lay (o := { cls := .type "list", data := .seq [Value.str y1 k1, .str (Txt.upper y1) t2.toks, .str y3 k3, .str " " t3.toks].toArray }) (u := .frz { cls := .type "list", data := .seq [Value.str y1 k1, .str (Txt.upper y1) t2.toks, .str y3 k3, .str " " t3.toks].toArray } (.lst ((four y1 y3).map .str)))
    ⟨Heap.get?_push_size _ rfl, by show 4 ≤ sizeLine; decide, _, 0, tk4.vals, Heap.get?_push_size _ rfl⟩
  have new2 : H2 t3.heap.objs.size = none := I3.hok.fresh (Nat.le_refl _)
  have h3 := hx2 t3.heap.objs.size _ new2 ⟨_, upd_same⟩ fun b hb => upd_ne (o := .frz { cls := .type "list", data := .seq [Value.str y1 k1, .str (Txt.upper y1) t2.toks, .str y3 k3, .str " " t3.toks].toArray } (.lst ((four y1 y3).map .str))) hb
  generalize hA : t3.heap.objs.size = a at *
  generalize hO : ({ cls := .type "list", data := .seq [Value.str y1 k1, .str (Txt.upper y1) t2.toks, .str y3 k3, .str " " t3.toks].toArray } : Obj) = o4 at *
  refine store_raw (v := V.ref a) I4 hN hf lf rfl fun t5 I5 _ _ l5 => ?_
  refine wpAny_execs_cons (wpAny_Return_some (wpAny_BinOp ?_))
  have hlen : σ.length = X.N.length := I.len
  have lf1 : ifd < (σ.set il (some (V.str y1))).length := by rw [List.length_set, hlen]; exact (List.getElem?_eq_some_iff.mp hf).1
  refine name_ref hf lf I5 (List.getElem?_set_self lf1) ?_ df
  refine lcT hc hN I5 hi ok hik hg he hs h3 ?_
  rintro J H4 ⟨n, P, G, rfl, hn, p0, turn, fin⟩
  refine ⟨n, P, G, rfl, hn, p0, turn, ?_⟩
  intro D' cs its nn s' H' I' pn hcs hG tk ls gD nD
  obtain ⟨ha, fin2⟩ := fin cs H' pn hcs hG
  rw [upd_same] at ha
  obtain ⟨ga, _⟩ := I'.hok a _ ha
  subst hO
  refine PySem.P.add_list ga gD ?_ ?_
  · have ea : ([Value.str y1 k1, .str (Txt.upper y1) t2.toks, .str y3 k3, .str " " t3.toks].toArray ++ its.toArray) = ([Value.str y1 k1, .str (Txt.upper y1) t2.toks, .str y3 k3, .str " " t3.toks] ++ its).toArray := by simp
    rw [ea]
    have new' : H' s'.heap.objs.size = none := I'.hok.fresh (Nat.le_refl _)
    have tkA : TkL (s.toks + 1) (s'.toks + 1) (four y1 y3 ++ cs) ([Value.str y1 k1, .str (Txt.upper y1) t2.toks, .str y3 k3, .str " " t3.toks] ++ its) := (tk4.up (Nat.le_trans l5 (Nat.le_succ _))).app tk
    have len : (four y1 y3 ++ cs).length ≤ sizeLine := by
      rw [List.length_append, hcs, sizeLine_eq]; show 4 + n ≤ _; omega
    refine ⟨.ref s'.heap.objs.size, _, upd H' s'.heap.objs.size (.frz { cls := .type "list", data := .seq ([Value.str y1 k1, .str (Txt.upper y1) t2.toks, .str y3 k3, .str " " t3.toks] ++ its).toArray } (.lst ((four y1 y3 ++ cs).map .str))),
      I'.laid (t' := s'.toks) (fun b o q => Heap.get?_push_of_some _ q) (Nat.le_refl _) ⟨Heap.get?_push_size _ rfl, by rw [List.length_map]; exact len, _, 0, tkA.vals, Heap.get?_push_size _ rfl⟩, rfl, ?_⟩
    exact fin2 _ _ new' ⟨_, 0, _, _, upd_same, tkA, by omega⟩ fun b hb => upd_ne hb
  · have e := tk.vals.length
    rw [List.length_map, hcs] at e
    rw [List.size_toArray, List.size_toArray, ← e]
    show 4 + n ≤ sizeLine
    rw [sizeLine_eq]; omega
end Pd

namespace Pd
open PySem PySem.Spec PyProof.Rows L2
/-! ### an instance called with keywords alone -/
theorem callO_kw {M : Model} {A : Around} {E : Value → Shared → Prop} {s : Shared} {a : Addr} {pos : Pos} {Q : Value → Shared → Prop} {args : List (Bool × Sem Value)} {kws : List (Option Str × Sem Value)} (hplain : (args.any (·.1) || kws.any (·.1.isNone)) = false)
    (h : wpAny M A (evalArgs (.ref a) true args kws) (fun z s1 => (∃ C ox od, PySem.W.InstAt s1.heap a ox C od ∧ ox.data = .plain) ∧ wpAny M A (call (.ref a) ([] ++ z.pos) z.kw) Q E s1) E s) : wpAny M A (callWith pos (.ref a) [] args kws) Q E s := by
  unfold callWith
  refine wpAny_bind (wpAny_holding (wpAny_mono h ?_ fun _ _ y => y))
  rintro z s1 ⟨⟨C, ox, od, J, hd⟩, h1⟩
  refine wpAny_bind (wpAny_standAt ?_)
  simp only [hplain]
  refine wpAny_bind ((PySem.W.kco_keeper (M := M) J hd).here ?_)
  refine wpAny_bind (wpAny_mono (wpAny_operateT h1) ?_ fun _ _ y => y)
  exact fun r s2 hr => wpAny_bind (wpAny_holding (wpAny_point (wpAny_pure hr)))
def tCallOK (X : Cx) (C : Addr) (m : Nat) (sp : Sp) (gV : List V → List V → List V) (E : XK) (tf : TE) (tk : TA) : TE := fun σ H Q => tf σ H fun y H1 => ∃ a, y = V.ref a ∧ tk σ H1 fun zs H2 => zs.length = m ∧ StX.InsC X H2 a C ∧ sp (gV [V.ref a] zs) H2 Q E
theorem pe_callOK {X : Cx} {CX : CXT} {k : Nat} {C g : Addr} {fd : FuncData} {ps ks : List Str} {sp : Sp} {E : XK} {fe : Expr} {tf : TE} {pos : Pos} {kws : List Keyword} {tk : TA} {gv : List Value → List Value → List Value} {gV : List V → List V → List V}
    (hf : PE X fe tf) (c : StX.CallO X.K C g) (F : FnOk X.prog X.w X.K X.mg X.base CX k g fd ps sp) (hr : Room k X.A) (hb : KBn X.K fd ps 1 ks gv gV) (hx : Passes CX X E) (hkw : PK X kws tk)
    (ht : eval (.Call fe [] kws pos) X.env = (do callWith pos (← eval fe X.env) [] (backTo pos (starEach [] X.env)) (backToKw pos (keywordEach kws X.env))) := by rfl)
    (hall : (backToKw pos (keywordEach kws X.env)).all (·.1.isSome) = true := by rfl) (hks : (backToKw pos (keywordEach kws X.env)).filterMap (·.1) = ks := by rfl)
    (hpl : ((backTo pos (starEach [] X.env)).any (·.1) || (backToKw pos (keywordEach kws X.env)).any (·.1.isNone)) = false := by rfl) : PE X (.Call fe [] kws pos) (tCallOK X C ks.length sp gV E tf tk) := by
  constructor
  intro pins s σ H Q I h
  rw [ht]
  refine wpAny_bind (thn (hf.run pins s σ H _ I h) ?_)
  rintro u s1 ⟨y, H1, I1, ry, a, rfl, q⟩
  obtain rfl : u = Value.ref a := ry
  refine callO_kw hpl (evalArgs_kw2_nil hall (thn (hkw.run pos pins s1 σ H1 _ I1 q) ?_))
  rintro ws s2 ⟨zs, H2, I2, rz, l2, hi, q2⟩
  obtain ⟨ox, od, J, hd⟩ := StX.insC_at I2 hi
  refine ⟨⟨C, ox, od, J, hd⟩, ?_⟩
  rw [hks]
  have r2 := hb.rel (vs := [V.ref a]) (us := [Value.ref a]) (.cons rfl .nil) rz
  refine wpAny_call (PySem.W.kco_code (a := ⟨[] ++ [], ks.zip ws⟩) I2.kIn J hd c.at_ c.fn c.fi (codeAny_mono (F.run X.A X.stack s2 H2 ⟨[Value.ref a], ks.zip ws⟩ _ _ Q E hr I2.env0 (hb.to s2 _ ws I2.kIn rfl (rz.length.symm.trans l2)) r2 q2) ?_))
  intro r s' hq
  cases r with
  | error e => exact hx pins σ H2 s2 e s' I2 hq
  | ok fl =>
    cases fl with
    | ret u => exact I2.after hq
    | next => exact False.elim hq
    | brk => exact False.elim hq
    | cont => exact False.elim hq
end Pd

namespace Pd
open SX
/-! ### the document's steps, on lists of signs -/
/-- the signs that texts may have -/
def CH : List Nat := [97, 98, 99, 100, 101, 102, 103, 104, 105, 106, 107, 108, 109, 110, 111, 112, 113, 114, 115, 116, 117, 118, 119, 120, 121, 122,
  65, 66, 67, 68, 69, 70, 71, 72, 73, 74, 75, 76, 77, 78, 79, 80, 81, 82, 83, 84, 85, 86, 87, 88, 89, 90, 48, 49, 50, 51, 52, 53, 54, 55, 56, 57, 32, 45, 46, 95, 47, 39]
inductive Stp where
  | low | swap (a b : Nat) | drop (cs : List Nat) | lead (a : Nat) | once (a : Nat) | cut (n : Nat)
def lowC (c : Nat) : Nat := if 65 ≤ c ∧ c ≤ 90 then c + 32 else c
def swapC (a b c : Nat) : Nat := if c = a then b else c
def keepAt (a : Nat) (l : List Nat) (i : Nat) : Bool := decide (l.getD i 0 ≠ a) || decide (i = 0) || decide (l.getD (i - 1) 0 ≠ a)
def onceN (a : Nat) (l : List Nat) : Nat → List Nat
  | 0 => []
  | i + 1 => onceN a l i ++ (if keepAt a l i = true then [l.getD i 0] else [])
def onceL (a : Nat) (l : List Nat) : List Nat := onceN a l l.length
def mk : Stp → List Nat → List Nat
  | .low, l => l.map lowC
  | .swap a b, l => l.map (swapC a b)
  | .drop cs, l => l.filter (fun c => decide (c ∉ cs))
  | .lead a, l => l.dropWhile (fun c => decide (c = a))
  | .once a, l => onceL a l
  | .cut n, l => l.take n
/-- a step that the document allows -/
def Stp.ok : Stp → Prop
  | .low => True
  | .swap a b => a ∈ CH ∧ b ∈ CH
  | .drop cs => 1 ≤ cs.length ∧ cs.length ≤ 10 ∧ cs.Nodup ∧ ∀ c ∈ cs, c ∈ CH
  | .lead a => a ∈ CH
  | .once a => a ∈ CH
  | .cut n => 1 ≤ n ∧ n ≤ 9
/-- a text that the document allows -/
def Good (l : List Nat) : Prop := (∀ c ∈ l, c ∈ CH) ∧ l.length ≤ 60
theorem onceN_mem {a : Nat} {l : List Nat} : ∀ {i : Nat}, i ≤ l.length → ∀ c ∈ onceN a l i, c ∈ l
  | 0, _, c, h => nomatch h
  | i + 1, hi, c, h => by
    rw [onceN] at h
    rcases List.mem_append.mp h with h | h
    · exact onceN_mem (Nat.le_of_succ_le hi) c h
    · split at h
      · rw [List.mem_singleton.mp h]
        have e : l.getD i 0 = l[i] := by
          have e2 : l[i]? = some l[i] := List.getElem?_eq_getElem (by omega)
          simp only [List.getD, e2, Option.getD_some]
        rw [e]; exact List.getElem_mem _
      · exact nomatch h
theorem onceN_len {a : Nat} {l : List Nat} : ∀ i : Nat, (onceN a l i).length ≤ i
  | 0 => Nat.le_refl _
  | i + 1 => by
    rw [onceN, List.length_append]
    have := onceN_len (a := a) (l := l) i
    split <;> simp <;> omega
/-- the last one that is kept -/
theorem onceN_last {a : Nat} {l : List Nat} : ∀ i : Nat, (onceN a l i).getLast? = some a ↔ (0 < i ∧ l.getD (i - 1) 0 = a)
  | 0 => by simp [onceN]
  | i + 1 => by
    have ih := onceN_last (a := a) (l := l) i
    rw [onceN]
    by_cases k : keepAt a l i = true
    · rw [if_pos k, List.getLast?_concat]
      simp
    · rw [if_neg k, List.append_nil, ih]
      have k' : keepAt a l i = false := by simpa using k
      simp only [keepAt, Bool.or_eq_false_iff, decide_eq_false_iff_not, Decidable.not_not] at k'
      obtain ⟨⟨h1, h2⟩, h3⟩ := k'
      simp only [Nat.add_sub_cancel]
      exact ⟨fun _ => ⟨by omega, h1⟩, fun _ => ⟨by omega, h3⟩⟩
/-- no two of a side by side -/
def NoAdj (a : Nat) (m : List Nat) : Prop := ∀ i, 0 < i → i < m.length → ¬ (m.getD i 0 = a ∧ m.getD (i - 1) 0 = a)
theorem noAdj_snoc {a c : Nat} {m : List Nat} (h : NoAdj a m) (hc : ¬ (c = a ∧ m.getLast? = some a)) : NoAdj a (m ++ [c]) := by
  intro i h0 hi
  rw [List.length_append] at hi
  simp at hi
  by_cases e : i = m.length
  · subst e
    rintro ⟨h1, h2⟩
    have e1 : (m ++ [c]).getD m.length 0 = c := by simp [List.getD]
    have e2 : (m ++ [c]).getD (m.length - 1) 0 = m.getD (m.length - 1) 0 := by
      simp only [List.getD, List.getElem?_append_left (show m.length - 1 < m.length by omega)]
    rw [e1] at h1
    rw [e2] at h2
    refine hc ⟨h1, ?_⟩
    rw [List.getLast?_eq_getElem?]
    have : m[m.length - 1]? = some m[m.length - 1] := List.getElem?_eq_getElem (by omega)
    rw [this]
    simp only [List.getD, this, Option.getD_some] at h2
    rw [h2]
  · have hi' : i < m.length := by omega
    have e1 : (m ++ [c]).getD i 0 = m.getD i 0 := by simp only [List.getD, List.getElem?_append_left hi']
    have e2 : (m ++ [c]).getD (i - 1) 0 = m.getD (i - 1) 0 := by simp only [List.getD, List.getElem?_append_left (show i - 1 < m.length by omega)]
    rw [e1, e2]
    exact h i h0 hi'
theorem onceN_noAdj {a : Nat} {l : List Nat} : ∀ i : Nat, NoAdj a (onceN a l i)
  | 0 => fun i _ hi => by simp [onceN] at hi
  | i + 1 => by
    rw [onceN]
    by_cases k : keepAt a l i = true
    · rw [if_pos k]
      refine noAdj_snoc (onceN_noAdj i) ?_
      rintro ⟨h1, h2⟩
      rw [onceN_last] at h2
      simp only [keepAt, Bool.or_eq_true, decide_eq_true_eq] at k
      rcases k with (k | k) | k
      · exact k h1
      · omega
      · exact k h2.2
    · rw [if_neg k, List.append_nil]
      exact onceN_noAdj i
theorem onceN_id {a : Nat} {m : List Nat} (h : NoAdj a m) : ∀ i : Nat, i ≤ m.length → onceN a m i = m.take i
  | 0, _ => by simp [onceN]
  | i + 1, hi => by
    have k : keepAt a m i = true := by
      simp only [keepAt, Bool.or_eq_true, decide_eq_true_eq]
      by_cases h0 : i = 0
      · exact .inl (.inr h0)
      · by_cases h1 : m.getD i 0 = a
        · exact .inr fun h2 => h i (by omega) hi ⟨h1, h2⟩
        · exact .inl (.inl h1)
    rw [onceN, onceN_id h i (by omega), if_pos k, List.take_succ]
    have : m[i]? = some m[i] := List.getElem?_eq_getElem hi
    simp only [List.getD, this, Option.getD_some, Option.toList_some]
theorem onceL_idem (a : Nat) (l : List Nat) : onceL a (onceL a l) = onceL a l := by
  show onceN a (onceL a l) (onceL a l).length = _
  have h := onceN_id (m := onceL a l) (onceN_noAdj _) _ (Nat.le_refl _)
  rw [h, List.take_length]
theorem lowC_lowC (c : Nat) : lowC (lowC c) = lowC c := by
  unfold lowC
  split
  · split <;> omega
  · rfl
theorem dropWhile_idem (p : Nat → Bool) : ∀ l : List Nat, (l.dropWhile p).dropWhile p = l.dropWhile p
  | [] => rfl
  | c :: r => by
    by_cases h : p c = true
    · rw [List.dropWhile_cons_of_pos h]; exact dropWhile_idem p r
    · rw [List.dropWhile_cons_of_neg h, List.dropWhile_cons_of_neg h]
/-- a step changes nothing of what it made -/
theorem mk_idem (st : Stp) (l : List Nat) : mk st (mk st l) = mk st l := by
  cases st with
  | low => show (l.map lowC).map lowC = l.map lowC; rw [List.map_map]; exact List.map_congr_left fun c _ => lowC_lowC c
  | swap a b =>
    show (l.map (swapC a b)).map (swapC a b) = l.map (swapC a b)
    rw [List.map_map]
    refine List.map_congr_left fun c _ => ?_
    show swapC a b (swapC a b c) = swapC a b c
    unfold swapC
    by_cases h : c = a
    · simp [h]
    · simp [h]
  | drop cs => show (l.filter _).filter _ = l.filter _; rw [List.filter_filter]; exact List.filter_congr fun c _ => Bool.and_self _
  | lead a => exact dropWhile_idem _ l
  | once a => exact onceL_idem a l
  | cut n => show (l.take n).take n = l.take n; rw [List.take_take, Nat.min_self]
theorem mk_len (st : Stp) (l : List Nat) : (mk st l).length ≤ l.length := by
  cases st with
  | low => exact Nat.le_of_eq (List.length_map _)
  | swap a b => exact Nat.le_of_eq (List.length_map _)
  | drop cs => exact List.length_filter_le _ _
  | lead a => exact (List.dropWhile_suffix _).length_le
  | once a => exact onceN_len _
  | cut n => exact List.length_take_le' _ _
theorem low_CH : ∀ c ∈ CH, lowC c ∈ CH := by decide
theorem mk_CH {st : Stp} {l : List Nat} (hs : st.ok) (h : ∀ c ∈ l, c ∈ CH) : ∀ c ∈ mk st l, c ∈ CH := by
  intro c hc
  cases st with
  | low => obtain ⟨d, hd, rfl⟩ := List.mem_map.mp hc; exact low_CH d (h d hd)
  | swap a b =>
    obtain ⟨d, hd, rfl⟩ := List.mem_map.mp hc
    unfold swapC
    split
    · exact hs.2
    · exact h d hd
  | drop cs => exact h c (List.mem_filter.mp hc).1
  | lead a => exact h c ((List.dropWhile_suffix _).subset hc)
  | once a => exact h c (onceN_mem (Nat.le_refl _) c hc)
  | cut n => exact h c (List.mem_of_mem_take hc)
theorem mk_good {st : Stp} {l : List Nat} (hs : st.ok) (h : Good l) : Good (mk st l) := ⟨mk_CH hs h.1, Nat.le_trans (mk_len st l) h.2⟩
theorem CH_lt : ∀ c ∈ CH, c < 128 := by decide
theorem CH_len : CH.length = 68 := rfl
theorem CH_nodup : CH.Nodup := by decide
end Pd

namespace Pd
open PySem PySem.Spec PyProof.Rows L2
/-! ### the operators of an own class: +, in, not in -/
section
variable {X : Cx} {CX : CXT} {C g : Addr} {n : Nat} {sp : Sp} {E : XK}
def rAddOwn (C : Addr) (sp : Sp) (E : XK) : R2 := fun x y H Q => ∃ a dx fs b dy gs, x = .ref a ∧ y = .ref b ∧ H a = some (.ins C dx fs) ∧ H b = some (.ins C dy gs) ∧ sp [.ref a, .ref b] H Q E
theorem op_addOwn (hc : PySem.W.selfFirst X.K C = true) (hs : PySem.W.findIn X.K (.ref C) "__add__" = some (some (.ref g))) (hf : PySem.W.isFn X.K (.ref g) = true) (F : FnR X.prog X.w X.K X.mg X.base CX n g sp) (hr : Room n X.A) (hx : Passes CX X E) :
    OpR X (binaryOp .Add) (rAddOwn C sp E) := by
  intro pins s σ H x y v u Q I rx ry h
  obtain ⟨a, dx, fs, b, dy, gs, rfl, rfl, ha, hb, q⟩ := h
  cases (show v = Value.ref a from rx)
  cases (show u = Value.ref b from ry)
  obtain ⟨mA, J, _⟩ := ins_get I.hok ha
  obtain ⟨mB, J', _⟩ := ins_get I.hok hb
  obtain ⟨od, J, _⟩ := J.look
  obtain ⟨od', J', _⟩ := J'.look
  obtain ⟨m, hF⟩ := I.fr
  refine PySem.W.binop_K (op := .Add) hF I.ok.mod.kin J J'.type hc hs hf ?_
  refine wpAny_mono (wpAny_call (run_fnR (us := [.ref a, .ref b]) (vs := [.ref a, .ref b]) F hr hx I (.cons rfl (.cons rfl .nil)) q)) (fun w s' z => ?_) fun _ _ x => x
  obtain ⟨z', H', I', rz, qz⟩ := z
  exact SlX.cmpback rz ⟨z', H', I', rz, qz⟩
def rInOwn (C : Addr) (k : Bool → Bool) (sp : Sp) (E : XK) : R2 := fun x y H Q => ∃ a dx fs, y = .ref a ∧ H a = some (.ins C dx fs) ∧ sp [.ref a, x] H (fun z H' => ∃ b, z = .bl b ∧ Q (.bl (k b)) H') E
theorem op_inOwn (hs : PySem.W.findIn X.K (.ref C) "__contains__" = some (some (.ref g))) (hf : PySem.W.isFn X.K (.ref g) = true) (F : FnR X.prog X.w X.K X.mg X.base CX n g sp) (hr : Room n X.A) (hx : Passes CX X E) :
    OpR X (compareOp .In) (rInOwn C (fun b => b) sp E) := by
  intro pins s σ H x y v u Q I rx ry h
  obtain ⟨a, dx, fs, rfl, ha, q⟩ := h
  cases (show u = Value.ref a from ry)
  obtain ⟨mA, J, _⟩ := ins_get I.hok ha
  obtain ⟨od, J, _⟩ := J.look
  obtain ⟨m, hF⟩ := I.fr
  refine PySem.W.in_K hF I.ok.mod.kin J hs hf ?_
  refine wpAny_mono (wpAny_call (run_fnR (us := [.ref a, v]) (vs := [.ref a, x]) F hr hx I (.cons rfl (.cons rx .nil)) q)) (fun w s' z => ?_) fun _ _ x => x
  obtain ⟨z', H', I', rz, b, rfl, qz⟩ := z
  cases (show w = Value.bool b from rz)
  exact wpAny_truthy_bool ⟨.bl b, H', I', rfl, qz⟩
theorem op_notInOwn (hs : PySem.W.findIn X.K (.ref C) "__contains__" = some (some (.ref g))) (hf : PySem.W.isFn X.K (.ref g) = true) (F : FnR X.prog X.w X.K X.mg X.base CX n g sp) (hr : Room n X.A) (hx : Passes CX X E) :
    OpR X (compareOp .NotIn) (rInOwn C (fun b => !b) sp E) := by
  intro pins s σ H x y v u Q I rx ry h
  obtain ⟨a, dx, fs, rfl, ha, q⟩ := h
  cases (show u = Value.ref a from ry)
  obtain ⟨mA, J, _⟩ := ins_get I.hok ha
  obtain ⟨od, J, _⟩ := J.look
  obtain ⟨m, hF⟩ := I.fr
  refine PySem.W.notIn_K hF I.ok.mod.kin J hs hf ?_
  refine wpAny_mono (wpAny_call (run_fnR (us := [.ref a, v]) (vs := [.ref a, x]) F hr hx I (.cons rfl (.cons rx .nil)) q)) (fun w s' z => ?_) fun _ _ x => x
  obtain ⟨z', H', I', rz, b, rfl, qz⟩ := z
  cases (show w = Value.bool b from rz)
  exact wpAny_truthy_bool ⟨.bl (!b), H', I', rfl, qz⟩
end
end Pd

namespace Pd
open PySem PySem.Spec PyProof.Rows L2
/-! ### an instance called where it may raise, in a try -/
def InsP (H : Hp) (a C : Addr) : Prop := (∃ dx vs, SlX.Slt H a C dx vs) ∨ ∃ dx fs, H a = some (.ins C dx fs)
def tCallOS (C : Addr) (sp : Sp) (E : L2.St → XK) (tf : TE) (t : TA) : TE := fun σ H Q => tf σ H fun y H1 => ∃ a, y = V.ref a ∧ t σ H1 fun vs H2 => InsP H2 a C ∧ sp (V.ref a :: vs) H2 Q (E σ)
theorem pe_callOS {X : Cx} {CX : CXT} {k : Nat} {C g : Addr} {sp : Sp} {E : L2.St → XK} {fe e : Expr} {es : List Expr} {tf : TE} {t : TA} {pos : Pos} (hf : PE X fe tf) (c : StX.CallO X.K C g) (F : FnR X.prog X.w X.K X.mg X.base CX k g sp) (hr : Room k X.A) (hx : ∀ σ, PassesAt CX X σ (E σ)) (ha : PA X (e :: es) t)
    (ht : eval (.Call fe (e :: es) [] pos) X.env = (do callWith pos (← eval fe X.env) [] (backTo pos (starEach (e :: es) X.env)) (backToKw pos (keywordEach [] X.env))) := by rfl)
    (he : starEach (e :: es) X.env = (false, eval e X.env) :: starEach es X.env := by rfl) (hpl : (backTo pos (starEach es X.env)).any (·.1) = false := by rfl) : PE X (.Call fe (e :: es) [] pos) (tCallOS C sp E tf t) := by
  constructor
  intro pins s σ H Q I h
  refine Call_ (thn (hf.run pins s σ H _ I h) fun u s1 ⟨y, H1, I1, ry, a, ey, q⟩ => ?_) ht
  subst ey
  obtain rfl : u = Value.ref a := ry
  refine StX.callO_with (thn (ha.run pos pins s1 σ H1 _ I1 q) fun us s2 ⟨vs, H2, I2, r, hi, q2⟩ => ?_) he hpl
  obtain ⟨ox, od, J, hd⟩ := StX.insC_at I2 (show StX.InsC X H2 a C from hi)
  refine ⟨⟨C, ox, od, J, hd⟩, wpAny_call (PySem.W.kco_code I2.kIn J hd c.at_ c.fn c.fi (codeAny_mono (F X.A X.stack s2 H2 (.ref a :: us) (.ref a :: vs) Q (E σ) hr I2.env0 (.cons rfl r) q2) ?_))⟩
  intro r s' hq
  cases r with
  | error e => exact hx σ pins H2 s2 e s' I2 hq
  | ok fl =>
    cases fl with
    | ret u => exact I2.after hq
    | next => exact False.elim hq
    | brk => exact False.elim hq
    | cont => exact False.elim hq
end Pd

namespace Pd
open PySem PySem.Spec PyProof.Rows L2
/-- list(text): some list -/
theorem call_listStr {X : Cx} (hc : X.calm = true) : CallR X (.type "list") (fun xs H Q => ∃ x : Str, xs = [.str x] ∧ x.cps.size ≤ 1000 ∧ ∀ p ys, H p = none → Q (.ref p) (upd H p (.lst ys))) := by
  intro pins s σ H xs us Q I r h
  obtain ⟨x, rfl, hz, q⟩ := h
  obtain ⟨u, rfl, t, rfl⟩ := vals1 r
  refine PySem.call_list_str (hn := by rw [sizeLine_eq]; omega) (I.ok.hd hc) x t fun h' tk acc c hk hS hacc => ?_
  have key : ∃ ys : List V, Vals ys acc.toList ∧ ys.length = x.cps.size := by
    have hsz : acc.size = x.cps.size := hacc.1
    have all : ∀ u ∈ acc.toList, ∃ v : V, RelV v u := fun u hu => by
      obtain ⟨i, hi, e⟩ := List.getElem_of_mem hu
      have hi' : i < acc.size := by simpa using hi
      obtain ⟨c', t', _, e2⟩ := hacc.2 i u (by rw [← e]; simp [hi'])
      exact ⟨.str ⟨#[c']⟩, t', e2⟩
    have mk : ∀ l : List Value, (∀ u ∈ l, ∃ v : V, RelV v u) → ∃ ys : List V, Vals ys l := by
      intro l
      induction l with
      | nil => exact fun _ => ⟨[], .nil⟩
      | cons u l ih =>
        intro h
        obtain ⟨v, hv⟩ := h u (List.mem_cons_self ..)
        obtain ⟨ys, hys⟩ := ih fun w hw => h w (List.mem_cons_of_mem _ hw)
        exact ⟨v :: ys, .cons hv hys⟩
    obtain ⟨ys, hys⟩ := mk _ all
    exact ⟨ys, hys, by rw [hys.length, Array.length_toList, hsz]⟩
  obtain ⟨ys, hys, hl⟩ := key
  have new : H s.heap.objs.size = none := I.hok.fresh (Nat.le_refl _)
  refine ⟨.ref s.heap.objs.size, upd H s.heap.objs.size (.lst ys), I.laid (t' := tk) (fun b o e => hk b o e) (Nat.le_refl _) ?_, rfl, q _ _ new⟩
  exact ⟨by rw [hl, sizeLine_eq]; omega, acc.toList, c, hys, by simpa using hS⟩
end Pd

set_option maxHeartbeats 2000000
namespace Pd
open PySem PySem.Spec PyProof.Rows L2
/-! ### rules that hold where at least n tokens are out -/
section
variable {α : Type} {M : Model} {A : Around} {E : Value → Shared → Prop} {s : Shared}
theorem thk {t : Sem α} {Q Q' : α → Shared → Prop} {n : Nat} (l : n ≤ s.toks) (h : wpAny M A t Q E s) (k : ∀ a s', n ≤ s'.toks → Q a s' → Q' a s') : wpAny M A t Q' E s :=
  thn (tkE l h) fun a s' z => k a s' z.1 z.2
end
structure PEn (n : Nat) (X : Cx) (e : Expr) (t : TE) : Prop where
  run : ∀ (pins : List (Addr × Obj)) (s : Shared) (σ : L2.St) (H : Hp) (Q : VK), n ≤ s.toks → Inv X pins σ H s → t σ H Q → wpAny (model X.prog X.w) X.A (eval e X.env) (EP X pins σ Q) X.xe s
structure PTn (n : Nat) (X : Cx) (e : Expr) (t : TT) : Prop where
  run : ∀ (pins : List (Addr × Obj)) (s : Shared) (σ : L2.St) (H : Hp) (Q : Bool → Hp → Prop), n ≤ s.toks → Inv X pins σ H s → t σ H Q → wpAny (model X.prog X.w) X.A (isTrue e X.env (eval e X.env)) (TP X pins σ Q) X.xe s
structure PAn (n : Nat) (X : Cx) (es : List Expr) (t : TA) : Prop where
  run : ∀ (pos : Pos) (pins : List (Addr × Obj)) (s : Shared) (σ : L2.St) (H : Hp) (Q : List V → Hp → Prop), n ≤ s.toks → Inv X pins σ H s → t σ H Q → wpAny (model X.prog X.w) X.A (spliced (backTo pos (starEach es X.env))) (AP X pins σ Q) X.xe s
structure PSn (n : Nat) (X : Cx) (st : Stmt) (t : TS) : Prop where
  run : ∀ (pins : List (Addr × Obj)) (s : Shared) (σ : L2.St) (H : Hp) (D : Ends), n ≤ s.toks → Inv X pins σ H s → t D σ H → wpAny (model X.prog X.w) X.A (exec st X.env) (SP X pins D) X.xe s
structure PSsn (n : Nat) (X : Cx) (sts : List Stmt) (t : TS) : Prop where
  run : ∀ (pins : List (Addr × Obj)) (s : Shared) (σ : L2.St) (H : Hp) (D : Ends), n ≤ s.toks → Inv X pins σ H s → t D σ H → wpAny (model X.prog X.w) X.A (execs sts X.env) (SP X pins D) X.xe s
/-- a def that may be called where n tokens are out -/
def FnN (n : Nat) (P : Program) (w : World) (K : PySem.W.Frag) (mg : Str → Option Value) (base : Heap) (k : Nat) (f : Addr) (sp : Sp) : Prop :=
  ∀ (A : Around) (outer : List Env) (s : Shared) (H : Hp) (us : List Value) (vs : List V) (Q : VK) (E : XK), n ≤ s.toks → Room k A → Env0 P w K mg base A outer s H → Vals vs us → sp vs H Q E →
    codeAny (model P w) A (.call (.ref f) ⟨us, []⟩) (CR CX0 outer P w H s Q E) s
section
variable {X : Cx} {n : Nat} {e a b c : Expr} {es : List Expr} {te ta tb : TE} {tl : TA} {t u v : TS} {tt tu : TT} {st : Stmt} {rest : List Stmt} {pos p : Pos}
theorem pen (h : PE X e te) : PEn n X e te := ⟨fun pins s σ H Q _ I q => h.run pins s σ H Q I q⟩
theorem ptn (h : PT X e tt) : PTn n X e tt := ⟨fun pins s σ H Q _ I q => h.run pins s σ H Q I q⟩
theorem pan (h : PA X es tl) : PAn n X es tl := ⟨fun pos pins s σ H Q _ I q => h.run pos pins s σ H Q I q⟩
theorem psn (h : PS X st t) : PSn n X st t := ⟨fun pins s σ H D _ I q => h.run pins s σ H D I q⟩
theorem pssn (h : PSs X rest t) : PSsn n X rest t := ⟨fun pins s σ H D _ I q => h.run pins s σ H D I q⟩
theorem PSsn.toT (h : PSsn 1 X rest t) : PSsT X rest t := fun pins s σ H D l I q => h.run pins s σ H D l I q
theorem PEn.mono {m : Nat} (h : PEn n X e te) (l : n ≤ m) : PEn m X e te := ⟨fun pins s σ H Q k I q => h.run pins s σ H Q (Nat.le_trans l k) I q⟩
/-! #### statements -/
theorem pssn_cons (h1 : PSn n X st t) (h2 : PSsn n X rest u) : PSsn n X (st :: rest) (tSeq t u) := by
  constructor
  intro pins s σ H D l I h
  refine wpAny_execs_cons (thk l (h1.run pins s σ H { D with nx := u D } l I h) fun f s1 l1 q => ?_)
  cases f with
  | next =>
    obtain ⟨σ', H', J, q'⟩ := q
    exact h2.run pins s1 σ' H' D l1 J q'
  | ret w => exact q
  | brk => exact q
  | cont => exact q
theorem pssn_one (h1 : PSn n X st t) : PSsn n X [st] t := by
  constructor
  intro pins s σ H D l I h
  refine wpAny_execs_cons (thn (h1.run pins s σ H D l I h) fun f s1 q => ?_)
  cases f with
  | next => exact wpAny_execs_nil q
  | ret w => exact q
  | brk => exact q
  | cont => exact q
theorem psn_if {s1 s2 : List Stmt} (hc : PTn n X c tt) (ha : PSsn n X s1 t) (hb : PSsn n X s2 u) : PSn n X (.If c s1 s2 pos) (tIfS tt t u) := by
  constructor
  intro pins s σ H D l I h
  refine wpAny_If (thk l (hc.run pins s σ H _ l I h) fun d s' l' ⟨H1, I1, q1⟩ => ?_)
  cases d with
  | true => exact ha.run pins s' σ H1 D l' I1 q1
  | false => exact hb.run pins s' σ H1 D l' I1 q1
theorem psn_ret (he : PEn n X e te) : PSn n X (.Return (some e) pos) (tRet te) := by
  constructor
  intro pins s σ H D l I h
  exact wpAny_Return_some (thn (he.run pins s σ H _ l I h) fun w s1 ⟨x, H1, I1, r1, q1⟩ => ⟨x, σ, H1, I1, r1, q1⟩)
theorem psn_expr (he : PEn n X e te) (hs : swapsWith e none pos.line X.env = pure false := by rfl) : PSn n X (.Expr e pos) (tDrop te) := by
  constructor
  intro pins s σ H D l I h
  exact wpAny_Expr_any (thn (he.run pins s σ H _ l I h) fun w s1 ⟨x, H1, I1, r1, q1⟩ => ⟨σ, H1, I1, q1⟩) I.quiet hs
theorem psn_set {i : Nat} {x : Str} {pos' : Pos} (hN : X.N.Nodup) (hi : X.N[i]? = some x) (hx : Loc X.env.scope x) (he : PEn n X e te) (hs : swapsWith e (some (.Name x pos')) pos.line X.env = pure false := by rfl)
    (hf : X.fn x = true ∨ X.env.scope.names.lookup x = some .local := by first | exact .inl rfl | exact .inr rfl | assumption) : PSn n X (.Assign [.Name x pos'] e pos) (tAsg te (gName i)) := by
  constructor
  intro pins s σ H D l I h
  refine wpAny_Assign_Name (thn (he.run pins s σ H _ l I h) fun w s1 ⟨y, H1, I1, r1, q1⟩ => ?_) hs
  exact store_ok I1 hN hi hx r1 (fun s2 I2 => ⟨_, H1, I2, q1⟩) hf
/-! #### arguments, calls -/
theorem pan_cons (ha : PEn n X e te) (hr : PAn n X es tl) (hs : starEach (e :: es) X.env = (false, eval e X.env) :: starEach es X.env := by rfl) : PAn n X (e :: es) (tCons te tl) := by
  constructor
  intro pos pins s σ H Q l I h
  rw [hs]
  show wpAny _ _ (spliced ((false, eval e X.env) :: backTo pos (starEach es X.env))) _ _ s
  refine Calls.spliced_cons (thk l (ha.run pins s σ H _ l I h) fun w s1 l1 ⟨x, H1, I1, r1, q1⟩ => ?_)
  exact thn (hr.run pos pins s1 σ H1 _ l1 I1 q1) fun us s2 ⟨xs, H2, I2, r2, q2⟩ => ⟨x :: xs, H2, I2, .cons r1 r2, q2⟩
theorem pan_nil : PAn n X [] tNil := pan pa_nil
section
variable {k : Nat} {f : Addr} {sp : Sp} {E : XK} {x : Str}
theorem run_fnN {pins : List (Addr × Obj)} {σ : L2.St} {H : Hp} {s : Shared} {us : List Value} {vs : List V} {Q : VK} (F : FnN n X.prog X.w X.K X.mg X.base k f sp) (hr : Room k X.A) (l : n ≤ s.toks) (I : Inv X pins σ H s) (r : Vals vs us) (h : sp vs H Q E) :
    codeAny (model X.prog X.w) X.A (.call (.ref f) ⟨us, []⟩) (fun r s' => match r with | .ok (.ret v) => EP X pins σ Q v s' | .ok _ => False | .error e => X.xe e s') s := by
  refine codeAny_mono (F X.A X.stack s H us vs Q E l hr I.env0 r h) fun r s' hq => ?_
  cases r with
  | error e => exact pass0 pins σ H s e s' I hq
  | ok fl =>
    cases fl with
    | ret w => exact I.after hq
    | next => exact False.elim hq
    | brk => exact False.elim hq
    | cont => exact False.elim hq
theorem pen_callN (F : FnN n X.prog X.w X.K X.mg X.base k f sp) (hr : Room k X.A) (hg : Gl X x) (hm : X.mg x = some (.ref f)) (hk : PySem.W.keepIn X.K (.ref f) = true)
    (ha : PAn n X (e :: es) tl) (hdb : (x == ("__debug__" : Str)) = false := by decide) (he : starEach (e :: es) X.env = (false, eval e X.env) :: starEach es X.env := by rfl) (hpl : (backTo pos (starEach es X.env)).any (·.1) = false := by rfl) :
    PEn n X (.Call (.Name x p) (e :: es) [] pos) (tCall sp [] E tl) := by
  constructor
  intro pins s σ H Q l I h
  refine wpAny_Call_Name_kw (ld_glob I hg hm ?_ hdb)
  refine PySem.W.callWith_K (h₀ := X.base) I.ok.mod.kin hk (thk l (ha.run pos pins s σ H _ l I h) ?_) he hpl
  rintro us s1 l1 ⟨vs, H1, I1, r, q⟩
  rw [List.append_nil] at q
  exact ⟨I1.kIn, wpAny_call (run_fnN F hr l1 I1 r q)⟩
/-- a plain def, its arguments with n tokens out -/
theorem pen_call {CX : CXT} (F : FnR X.prog X.w X.K X.mg X.base CX k f sp) (hr : Room k X.A) (hg : Gl X x) (hm : X.mg x = some (.ref f)) (hk : PySem.W.keepIn X.K (.ref f) = true) (hx : Passes CX X E)
    (ha : PAn n X (e :: es) tl) (hdb : (x == ("__debug__" : Str)) = false := by decide) (he : starEach (e :: es) X.env = (false, eval e X.env) :: starEach es X.env := by rfl) (hpl : (backTo pos (starEach es X.env)).any (·.1) = false := by rfl) :
    PEn n X (.Call (.Name x p) (e :: es) [] pos) (tCall sp [] E tl) := by
  constructor
  intro pins s σ H Q l I h
  refine wpAny_Call_Name_kw (ld_glob I hg hm ?_ hdb)
  refine PySem.W.callWith_K (h₀ := X.base) I.ok.mod.kin hk (thn (ha.run pos pins s σ H _ l I h) ?_) he hpl
  rintro us s1 ⟨vs, H1, I1, r, q⟩
  rw [List.append_nil] at q
  exact ⟨I1.kIn, wpAny_call (run_fnR F hr hx I1 r q)⟩
end
/-! #### operators, tests -/
theorem pen_op {op : Operator} {r : R2} (ho : OpR X (binaryOp op) r) (ha : PEn n X a ta) (hb : PEn n X b tb) : PEn n X (.BinOp a op b pos) (tOp r ta tb) := by
  constructor
  intro pins s σ H Q l I h
  refine wpAny_BinOp (thk l (ha.run pins s σ H _ l I h) fun w s1 l1 ⟨x, H1, I1, r1, q1⟩ => ?_)
  exact thn (hb.run pins s1 σ H1 _ l1 I1 q1) fun w2 s2 ⟨y, H2, I2, r2, q2⟩ => ho pins s2 σ H2 x y w w2 Q I2 r1 r2 q2
theorem pen_cmpR {op : CmpOp} {r : R2} (ho : OpR X (compareOp op) r) (ha : PEn n X a ta) (hb : PEn n X b tb) (hm : behindInMarks op b = false) : PEn n X (.Compare a [op] [b] pos) (tOp r ta tb) := by
  constructor
  intro pins s σ H Q l I h
  refine wpAny_Compare1 (thk l (ha.run pins s σ H _ l I h) fun w s1 l1 ⟨x, H1, I1, r1, q1⟩ => ?_) hm
  exact thn (hb.run pins s1 σ H1 _ l1 I1 q1) fun w2 s2 ⟨y, H2, I2, r2, q2⟩ => ho pins s2 σ H2 x y w w2 Q I2 r1 r2 q2
theorem ptn_val (h : PEn n X e te) (he : ∀ whole, isTrue e X.env whole = (do let v ← whole; standAt e.pos; holding [v] (truthy v)) := by intro _; rfl) : PTn n X e (tB te) := by
  constructor
  intro pins s σ H Q l I hw
  refine isTrue_plain (thn (h.run pins s σ H _ l I hw) fun w s1 ⟨x, H1, I1, r1, q1⟩ => ?_) (he _)
  obtain ⟨d, rfl, q⟩ := q1
  cases r1
  exact wpAny_truthy_bool ⟨H1, I1, q⟩
theorem ptn_not (ha : PTn n X a tt) : PTn n X (.UnaryOp .Not a pos) (tNot tt) := by
  constructor
  intro pins s σ H Q l I h
  exact isTrue_not (ha.run pins s σ H (fun c H1 => Q (!c) H1) l I h)
/-- a method of texts, its argument with n tokens out -/
theorem pen_m1 {id : String} {name : Str} {apos : Pos} {r : V → List V → Hp → VK → Prop} (slot : Slot "str" name id) (ty : typeOf (.builtin id) = pure (.type "method_descriptor")) (rule : MtR X id r) (ho : PEn n X a ta) (he : PEn n X e te)
    (hs : starEach [e] X.env = [(false, eval e X.env)] := by rfl) (hbase : attributeBase a name X.env (eval a X.env) = eval a X.env := by rfl) (hline : (apos.endLine == pos.line) = true := by rfl) :
    PEn n X (.Call (.Attribute a name apos) [e] [] pos) (tM1 r ta te) := by
  constructor
  intro pins s σ H Q l I h
  refine PySem.Call_method1 hbase hs hline (thk l (ho.run pins s σ H _ l I h) ?_)
  rintro v s1 l1 ⟨x, H1, I1, r1, ⟨z, rfl⟩, q1⟩
  obtain ⟨t, rfl⟩ := _root_.id r1
  refine ⟨"str", _, F.plainAttrs_str, slot, ty, typeIs_str _ _ _, (fun _ e => nomatch e), Calls.callWith_builtin rfl (Calls.evalArgs_plain (Calls.spliced_cons ?_))⟩
  exact thn (he.run pins s1 σ H1 _ l1 I1 q1) fun w s2 ⟨y, H2, I2, r2, q2⟩ => Calls.spliced_nil (rule pins s2 σ H2 _ [y] _ [w] Q I2 r1 (.cons r2 .nil) q2)
/-- written texts replaced, a token out -/
theorem pen_replC {y z : Str} {j k : Nat} {c0 c1 apos : Pos} (hn : 1 ≤ n) (ho : PE X a ta) (hyz : (y == z) = false := by decide)
    (hst : starEach [.Constant (.str y) j c0, .Constant (.str z) k c1] X.env = [(false, eval (.Constant (.str y) j c0) X.env), (false, eval (.Constant (.str z) k c1) X.env)] := by rfl)
    (hbase : attributeBase a "replace" X.env (eval a X.env) = eval a X.env := by rfl) (hline : (apos.endLine == pos.line) = true := by rfl) :
    PEn n X (.Call (.Attribute a "replace" apos) [.Constant (.str y) j c0, .Constant (.str z) k c1] [] pos) (CwR.tReplC ta y z) :=
  ⟨fun pins s σ H Q l I h => CwR.pet_replC (j := j) (k := k) ho hyz hst hbase hline pins s σ H Q (Nat.le_trans hn l) I h⟩
end
end Pd

set_option maxHeartbeats 4000000
namespace Pd
open PySem PySem.Spec PyProof.Rows L2
/-! ### a comprehension, n tokens out -/
set_option maxHeartbeats 4000000 in
theorem pen_lc {n : Nat} {X : Cx} {elt tg iter : Expr} {ifs : List Expr} {scope : Scope} {own : List (Str × Nat)} {pos : Pos} {wi : TI} {g : TG} {tt : TT} {te : TE} (hc : X.calm = true) (hN : X.N.Nodup) (hi : PI X tg iter wi) (ok : BlkOk X.N X.env.scope scope own)
    (hg : ∀ (s : Shared) (H : Hp) (C : Addr) (cl : List (Str × Addr)) (fp : List Addr), PG (X.blk s H scope (compEnvC scope cl C X.env) fp) tg g)
    (ht : ∀ (s : Shared) (H : Hp) (C : Addr) (cl : List (Str × Addr)) (fp : List Addr), PTs (X.blk s H scope (compEnvC scope cl C X.env) fp) ifs tt)
    (he : ∀ (s : Shared) (H : Hp) (C : Addr) (cl : List (Str × Addr)) (fp : List Addr), PEn n (X.blk s H scope (compEnvC scope cl C X.env) fp) elt te) (hs : ∀ x, foldedSetIterable iter X.env x = pure x := by intro _; rfl) :
    PEn n X (.ListComp elt [⟨tg, iter, ifs, 0⟩] scope pos) (tLc wi g tt te (own.map (·.2))) := by
  constructor
  intro pins s σ H Q l0 I h
  rw [eval_ListComp]
  have hf : ∀ y ∈ scope.names, y.2 = .free → ∃ c, X.env.cells.lookup y.1 = some c := by
    intro y hy e
    rcases ok.free y hy e with k | k
    · exact I.ok.has _ (.inl k)
    · exact I.ok.has _ (.inr k)
  refine wpAny_comprehension_free (use := none) rfl hs (closure_ok hf) ok.kind (fun y hy e => by rw [ok.uniq y hy, e]) (thk l0 (hi.run pins s σ H _ I h) ?_)
  intro xv s1 l1 hx
  refine thk l1 hx ?_
  rintro itv s2 l2 ⟨it, fp, tn, J, H2, rfl, I2, T, st2, f2, q⟩
  refine wpAny_newObj_type (newEnv_comp ?_) (by show 0 ≤ sizeLine; decide)
  generalize hD : s2.heap.objs.size = D
  have dn : H2 D = none := I2.hok.fresh (Nat.le_of_eq hD)
  obtain ⟨W, ⟨m0, w0⟩, turn⟩ := q D dn
  generalize hs3 : ({ s2 with heap := s2.heap.push { cls := .type "list", data := .seq ([] : List Value).toArray } } : Shared) = s3
  have t3 : s3.toks = s2.toks := by rw [← hs3]
  have h3 : s3.heap = s2.heap.push { cls := .type "list", data := .seq ([] : List Value).toArray } := by rw [← hs3]
  have I3 : Inv X pins σ (upd H2 D (.lst [])) s3 := by
    rw [← hs3]
    refine I2.laid (t' := s2.toks) (fun b o e => Heap.get?_push_of_some _ e) (Nat.le_of_eq hD) ⟨Nat.zero_le _, [], 0, .nil, ?_⟩
    rw [← hD]
    exact Heap.get?_push_size _ rfl
  have sz : ∀ b ∈ fp, b < s2.heap.objs.size := by
    intro b hb
    obtain ⟨o, e, _⟩ := T.obj _ _ st2 b hb
    exact Heap.lt_size e
  have f3 : ∀ b ∈ fp, FpOk X pins (upd H2 D (.lst [])) b ∧ b < s3.heap.objs.size := by
    intro b hb
    have z := sz b hb
    refine ⟨⟨?_, (f2 b hb).2⟩, by rw [h3, Heap.size_push]; exact Nat.lt_succ_of_lt z⟩
    rw [upd_ne (by rw [← hD]; exact Nat.ne_of_lt z)]
    exact (f2 b hb).1
  have st3 : tn 0 s3.heap := T.keep _ _ _ st2 fun b _ o e => by rw [h3]; exact Heap.get?_push_of_some _ e
  have I4 := block_start I3 ok hN f3
  have pg := hg s3 (upd H2 D (.lst [])) s3.heap.objs.size (cellsFrom (s3.heap.objs.size + 1) scope.names (cloFrom X.env.cells scope.names [])) fp
  have pt := ht s3 (upd H2 D (.lst [])) s3.heap.objs.size (cellsFrom (s3.heap.objs.size + 1) scope.names (cloFrom X.env.cells scope.names [])) fp
  have pe := he s3 (upd H2 D (.lst [])) s3.heap.objs.size (cellsFrom (s3.heap.objs.size + 1) scope.names (cloFrom X.env.cells scope.names [])) fp
  have nfp : ∀ b ∈ fp, (upd H2 D (.lst [])) b = none := fun b hb => (f3 b hb).1.1
  show codeAny _ _ (.compStart (.ListComp elt [⟨tg, iter, ifs, 0⟩] scope pos) 0 (.ref it) (.ref D) (compEnvC scope (cellsFrom (s3.heap.objs.size + 1) scope.names (cloFrom X.env.cells scope.names [])) s3.heap.objs.size X.env))
    (compPost (model X.prog X.w) X.A X.xe none (EP X pins σ Q) (.ref D) s3.heap.objs.size) { s3 with heap := pushCells (s3.heap.push { cls := .type "dict", data := .dict #[] }) scope.names }
  generalize hce : compEnvC scope (cellsFrom (s3.heap.objs.size + 1) scope.names (cloFrom X.env.cells scope.names [])) s3.heap.objs.size X.env = ce at I4 pg pt pe ⊢
  have cL : ce.locals = s3.heap.objs.size := by subst hce; rfl
  generalize hH3 : upd H2 D (.lst []) = H3 at I3 I4 pg pt pe w0 nfp f3
  generalize hs4 : ({ s3 with heap := pushCells (s3.heap.push { cls := .type "dict", data := .dict #[] }) scope.names } : Shared) = s4 at I4 ⊢
  have l4 : n ≤ s4.toks := by rw [← hs4]; show n ≤ s3.toks; rw [t3]; exact l2
  have st4 : tn 0 s4.heap := T.keep _ _ _ st3 fun b _ o e => by rw [← hs4]; exact pushCells_keeps _ _ _ _ (Heap.get?_push_of_some _ e)
  have stat : ∀ {σ' : L2.St} {H' : Hp} {s' : Shared}, Inv (X.blk s3 H3 scope ce fp) [] σ' H' s' → (∀ b ∈ fp, H' b = none) → ∀ b ∈ fp, FpOk (X.blk s3 H3 scope ce fp) [] H' b := fun {σ' H' s'} I' hn b hb =>
    ⟨hn b hb, (I'.ok.exf b hb).1, I'.ok.exfs b hb, .inl hb, fun x c e => (I'.ok.exf b hb).2 x c e, fun p hp => absurd (show p ∈ ([] : List (Addr × Obj)) ++ [] from hp) (by simp)⟩
  have loop : codeAny (model X.prog X.w) X.A (.compLoop (.ListComp elt [⟨tg, iter, ifs, 0⟩] scope pos) 0 (.ref it) (.ref D) ce) (compPost (model X.prog X.w) X.A X.xe none (EP X pins σ Q) (.ref D) s3.heap.objs.size) s4 := by
    refine compLoop_any (fun m s' => n ≤ s'.toks ∧ ∃ i H', Inv (X.blk s3 H3 scope ce fp) [] (wipe σ (own.map (·.2))) H' s' ∧ tn i s'.heap ∧ (∀ b ∈ fp, H' b = none) ∧ W i m H') ?_ m0 ⟨l4, 0, H3, I4, st4, nfp, w0⟩
    rintro m s5 ⟨l5, i, H5, I5, st5, n5, w5⟩
    rcases turn i m H5 w5 with ⟨stop, qq⟩ | ⟨go, Nx, hNx, step⟩
    · refine thnF (T.done (X.blk s3 H3 scope ce fp) rfl rfl rfl hc i [] s5 _ H5 (fun _ _ => False) I5 (stat I5 n5) st5 stop) ?_
      rintro r s6 ⟨rfl, I6⟩
      have I7 : Inv X pins σ H5 s6 := I3.call' (ch := fp) I6.os I6.base I6.hok I6.bare fun b hb => ⟨(f3 b hb).1.2.2.2.1, (f3 b hb).1.2.1, (f3 b hb).1.2.2.2.2.1, (f3 b hb).1.2.2.2.2.2⟩
      have nC : H5 s3.heap.objs.size = none := by
        have z : H5 ce.locals = none := I6.free
        rw [cL] at z
        exact z
      obtain ⟨mm, hn, _⟩ := I6.loc
      have hn : s6.heap.Ns ce.locals mm := hn
      rw [cL] at hn
      obtain ⟨g0, g1, g2, g3, g4, g5⟩ := I3.fpOk (H' := H5) (Nat.le_refl _) nC
      exact ⟨mm, hn, fun g sb => ⟨.ref D, H5, I7.turned (t' := s6.toks) (fun b o hb e => (sb.2 b hb).trans e) g0 g1 g3 g4 g5, rfl, qq⟩⟩
    · refine thnF (tkE l5 (T.item (X.blk s3 H3 scope ce fp) rfl rfl rfl hc i [] s5 _ H5 (fun _ _ => False) I5 (stat I5 n5) st5 go)) ?_
      rintro r s6 ⟨l6, u, rfl, h6⟩
      refine thnF (tkE l6 h6) ?_
      rintro _ s7 ⟨l7, x, H7, I7, r7, y7, st7, n7⟩
      have I7' := I7.pinned (stat I7 n7) (T.obj _ _ st7)
      refine thnF (tkE l7 (pg.run _ s7 _ H7 x u _ I7' r7 (step x H7 y7))) ?_
      rintro _ s8 ⟨l8, σ8, H8, I8, hw8, q8⟩
      refine thnF (tkE l8 (pt.run _ s8 σ8 H8 _ I8 q8)) ?_
      rintro b s9 ⟨l9, H9, I9, q9⟩
      have fin : ∀ {s' : Shared} {H' : Hp}, n ≤ s'.toks → Inv (X.blk s3 H3 scope ce fp) ([] ++ pinsAt fp s7.heap) σ8 H' s' → Nx H' →
          ∃ m', m' < m ∧ n ≤ s'.toks ∧ ∃ i H', Inv (X.blk s3 H3 scope ce fp) [] (wipe σ (own.map (·.2))) H' s' ∧ tn i s'.heap ∧ (∀ b ∈ fp, H' b = none) ∧ W i m' H' := by
        intro s' H' ls I' nx
        obtain ⟨m', hm, w'⟩ := hNx H' nx
        have pin' : ∀ b ∈ fp, ∀ o, s7.heap.get? b = some o → s'.heap.get? b = some o ∧ H' b = none := fun b hb o e =>
          let z := I'.pin (b, o) (List.mem_append_right _ (List.mem_append_right _ (mem_pinsAt hb e)))
          ⟨z.1, z.2.1⟩
        have hl : (wipe σ (own.map (·.2))).length = σ8.length := by rw [← hw8, wipe_length]
        refine ⟨m', hm, ls, i + 1, H', (I'.unpinned (pins := [])).weak hl (fun j v e => ?_), T.keep _ _ _ st7 fun b hb o e => (pin' b hb o e).1, fun b hb => ?_, w'⟩
        · rw [← hw8] at e
          exact (wipe_some e).1
        · obtain ⟨o, e, _⟩ := T.obj _ _ st7 b hb
          exact (pin' b hb o e).2
      cases b with
      | false =>
        simp only [Bool.false_eq_true, if_false] at q9 ⊢
        exact fin l9 I9 q9
      | true =>
        simp only [if_true] at q9 ⊢
        refine thnF (tkE l9 (pe.run _ s9 σ8 H9 _ l9 I9 q9)) ?_
        rintro z s10 ⟨l10, yv, H10, I10, r10, acc, hD10, hz10, nx⟩
        refine thnF (tkE l10 (app_ok (X := X.blk s3 H3 scope ce fp) (Q := fun _ s' => Inv (X.blk s3 H3 scope ce fp) ([] ++ pinsAt fp s7.heap) σ8 (upd H10 D (.lst (acc ++ [yv]))) s') I10 hD10 hz10 r10 fun s11 I11 => I11)) ?_
        rintro _ s11 ⟨l11, I11⟩
        exact fin l11 I11 nx
  exact codeAny_compStart_list loop (T.self X.A 0 _ _ _ st4 loop)
/-! ### defs -/
theorem fnN_of {P : Program} {w : World} {K : PySem.W.Frag} {mg : Str → Option Value} {base : Heap} {x qual : Str} {st : Stmt} {f : Addr} {fd : FuncData} {N ps : List Str} {k n : Nat} {sp : Sp}
    (F : Fun K x qual st f fd) (S : FnScope N ps (defScope st))
    (hb : ∀ (kV doc pm : Value) (an : Option Addr) (cdv ct : Value) (us : List Value), us.length = ps.length → bindArgs (PySem.W.fnOf x qual (defArgs st) (defBody st) (defScope st) .none kV doc pm an cdv ct) ⟨us, []⟩ = pure (ps.zip us))
    (len : ∀ vs H Q E, sp vs H Q E → vs.length = ps.length)
    (hbody : ∀ (cdv : Value) (A : Around) (outer : List Env) (s : Shared) (H : Hp) (vs : List V) (Q : VK) (E : XK), Room k (A.deeper (envOfC qual (defScope st) s.heap.objs.size f cdv)) → sp vs H Q E →
      ∃ t, PSsn n (cxOf CX0 P w K mg base N qual (defScope st) f cdv A outer s H E) (defBody st) t ∧ t { nx := fun _ H' => Q .non H', rt := Q } (start N vs) H) : FnN n P w K mg base (k + 1) f sp := by
  obtain ⟨oc, od, kV, doc, pm, an, cdv, ct, osl, rfl, lk, hcd⟩ := F.ex
  intro A outer s H us vs Q E l0 hr e0 r hsp
  have hl : us.length = ps.length := r.length.symm.trans (len _ _ _ _ hsp)
  have KX : K.In s.heap := e0.mod.kin.keeps fun b o e => (e0.bs b o e).1
  have lim : s.heap.NoLimit := e0.mod.nolimit.keeps fun b o e => (e0.bs b o e).1
  have hkind : ∀ y ∈ ps.zip us, (defScope st).names.lookup y.1 = some .local ∨ ((defScope st).names.lookup y.1 = some .cell ∧ ((cellsFrom (s.heap.objs.size + 1) (defScope st).names []).lookup y.1).isSome = true) := fun y hy => by
    rcases S.par y.1 (List.of_mem_zip hy).1 with q | q
    · exact .inl q
    · exact .inr ⟨q, PySem.W.cellsFrom_some _ _ _ (.inl q)⟩
  refine codeAny_call_function hr.depth (KX _ _ lk) rfl S.co S.gen rfl (PySem.W.codeRec_of KX hcd) (BindsTo.of_eq (hb kV doc pm an cdv ct us hl) _ _ _ _ ?_)
  refine wpAny_mono (tkE (Nat.le_refl s.toks) (wpAny_newFunctionEnv_cells S.kind hkind fun env he s1 x => (⟨he, x⟩ : env = _ ∧ InCallC s _ _ _ _ s1))) ?_ fun _ _ z => z
  rintro env s1 ⟨ht, rfl, x⟩
  refine ⟨lim.keeps x.toInCall.keep, codeAny_func ?_⟩
  obtain ⟨t, he, hq⟩ := hbody cdv A outer s H vs Q E (hr.deeper _) hsp
  have I : Inv (cxOf CX0 P w K mg base N qual (defScope st) f cdv A outer s H E) [] (start N vs) H s1 := inv_start S hr.hd e0 (len _ _ _ _ hsp) r x
  refine wpAny_mono (he.run [] s1 _ H _ (Nat.le_trans l0 ht) I hq) (fun fl s' hs => ?_) fun _ _ z => z
  cases fl with
  | ret u =>
    obtain ⟨v, σ', H', J, rv, q⟩ := hs
    exact ⟨v, H', J.os, J.bare, J.base, J.hok, rv, q⟩
  | next =>
    obtain ⟨σ', H', J, q⟩ := hs
    exact ⟨.non, H', J.os, J.bare, J.base, J.hok, rfl, q⟩
  | brk =>
    obtain ⟨_, _, _, q⟩ := hs
    exact False.elim q
  | cont =>
    obtain ⟨_, _, _, q⟩ := hs
    exact False.elim q
/-- a def with a parameter: behind the binding a token is out -/
theorem fnOk_1 {P : Program} {w : World} {K : PySem.W.Frag} {mg : Str → Option Value} {base : Heap} {x qual : Str} {st : Stmt} {f : Addr} {fd : FuncData} {N ps : List Str} {k : Nat} {sp : Sp} {CX : CXT}
    (F : Fun K x qual st f fd) (S : FnScope N ps (defScope st)) (hnc : ∀ y ∈ (defScope st).names, y.2 ≠ .cell) (hps : 1 ≤ ps.length)
    (len : ∀ vs H Q E, sp vs H Q E → vs.length = ps.length)
    (hbody : ∀ (cdv : Value) (A : Around) (outer : List Env) (s : Shared) (H : Hp) (vs : List V) (Q : VK) (E : XK), Room k (A.deeper (envOfC qual (defScope st) s.heap.objs.size f cdv)) → sp vs H Q E →
      ∃ t, PSsn 1 (cxOf CX P w K mg base N qual (defScope st) f cdv A outer s H E) (defBody st) t ∧ t { nx := fun _ H' => Q .non H', rt := Q } (start N vs) H) : FnOk P w K mg base CX (k + 1) f fd ps sp := by
  obtain ⟨oc, od, kV, doc, pm, an, cdv, ct, osl, rfl, lk, hcd⟩ := F.ex
  exact fn_ofT lk hcd S hnc hps len fun A outer s H vs Q E hr h => by
    obtain ⟨t, h1, h2⟩ := hbody cdv A outer s H vs Q E hr h
    exact ⟨t, h1.toT, h2⟩
end Pd

set_option maxHeartbeats 2000000
namespace Pd
open PySem PySem.Spec PyProof.Rows L2
/-! ### a sign of a text, as a new text -/
def tIxS (ta tb : TE) : TE := fun σ H Q => ta σ H fun x H1 => ∃ z : Str, x = .str z ∧ tb σ H1 fun y H2 => ∃ (i : Int) (c : Nat), y = .int i ∧ 0 ≤ i ∧ i < z.length ∧ z.length ≤ 1000 ∧ z.cps[i.toNat]? = some c ∧ Q (.str ⟨#[c]⟩) H2
/-- as PEF, but the new token may be the first free one -/
structure PEG (X : Cx) (e : Expr) (t : TE) : Prop where
  run : ∀ (pins : List (Addr × Obj)) (s : Shared) (σ : L2.St) (H : Hp) (Q : VK), Inv X pins σ H s → t σ H Q →
    wpAny (model X.prog X.w) X.A (eval e X.env) (fun u s' => EP X pins σ Q u s' ∧ s.toks ≤ s'.toks ∧ Frsh s.toks s'.toks u) X.xe s
theorem PEF.peg {X : Cx} {e : Expr} {t : TE} (h : PEF X e t) : PEG X e t := ⟨fun pins s σ H Q I q => thn (h.run pins s σ H Q I q) fun u s' ⟨a, b, x, t, e, l1, l2⟩ => ⟨a, b, x, t, e, by omega, l2⟩⟩
theorem peg_ix {X : Cx} {a b : Expr} {ta tb : TE} {pos : Pos} (ha : PE X a ta) (hb : PE X b tb) (hs : PlainIxT b) : PEG X (.Subscript a b pos) (tIxS ta tb) := by
  constructor
  intro pins s σ H Q I h
  refine Subscript_ (thk (Nat.le_refl s.toks) (ha.run pins s σ H _ I h) ?_)
  rintro u0 s1 l1 ⟨x, H1, I1, rx, z, rfl, h1⟩
  obtain ⟨tz, rfl⟩ := rx
  refine thk l1 (hb.run pins s1 σ H1 _ I1 h1) ?_
  rintro u s2 l2 ⟨y, H2, I2, ry, i, c, rfl, h0, h1, hz, hc, q⟩
  obtain ⟨t, rfl⟩ := ry
  have e : seqIndex? i z.length = some i.toNat := PySem.StrLaws.seqIndex_nonneg h0 h1
  refine tail_any (typeIs_str s2 z tz) slot_str_getitem.lookup (getItem_str (c := c) ?_ (by rw [e]; exact hc) ⟨⟨.str ⟨#[c]⟩, H2, I2.tok _, ⟨_, rfl⟩, q⟩, ?_, _, _, rfl, ?_, ?_⟩) (hs _ _)
  · rw [decide_eq_false (by omega), decide_eq_false (by omega)]; rfl
  · show s.toks ≤ s2.toks + 1; omega
  · exact l2
  · exact Nat.lt_succ_self _
/-! ### a test that gives out a token -/
structure PTF (X : Cx) (e : Expr) (t : TT) : Prop where
  run : ∀ (pins : List (Addr × Obj)) (s : Shared) (σ : L2.St) (H : Hp) (Q : Bool → Hp → Prop), Inv X pins σ H s → t σ H Q →
    wpAny (model X.prog X.w) X.A (isTrue e X.env (eval e X.env)) (fun b s' => TP X pins σ Q b s' ∧ s.toks + 1 ≤ s'.toks) X.xe s
def tEqI (k : Int) (ta : TE) : TT := fun σ H Q => ta σ H fun x H1 => ∃ n : Int, x = .int n ∧ Q (n == k) H1
theorem ptf_eqI {X : Cx} {a : Expr} {ta : TE} {k : Int} {j : Nat} {cp pos : Pos} (ha : PE X a ta) : PTF X (.Compare a [.Eq] [.Constant (.int k) j cp] pos) (tEqI k ta) := by
  constructor
  intro pins s σ H Q I h
  refine wpAny_isTrue_Compare1 (thk (Nat.le_refl s.toks) (ha.run pins s σ H _ I h) ?_)
  rintro u s1 l1 ⟨x, H1, I1, rx, n, rfl, q⟩
  obtain ⟨t, rfl⟩ := rx
  exact wpAny_Constant_int (eq_int (wpAny_truthy_bool ⟨⟨H1, I1.tok _, q⟩, Nat.succ_le_succ l1⟩))
/-! ### a def of two returns that gives a new text -/
theorem fnT_if {P : Program} {w : World} {K : PySem.W.Frag} {mg : Str → Option Value} {base : Heap} {x qual : Str} {st : Stmt} {f : Addr} {fd : FuncData} {N ps : List Str} {k : Nat} {sp : Sp} {c e1 e2 : Expr} {p1 p2 p3 : Pos}
    (F : Fun K x qual st f fd) (S : FnScope N ps (defScope st)) (hst : defBody st = [.If c [.Return (some e1) p1] [] p2, .Return (some e2) p3])
    (hb : ∀ (kV doc pm : Value) (an : Option Addr) (cdv ct : Value) (us : List Value), us.length = ps.length → bindArgs (PySem.W.fnOf x qual (defArgs st) (defBody st) (defScope st) .none kV doc pm an cdv ct) ⟨us, []⟩ = pure (ps.zip us))
    (len : ∀ vs H Q E, sp vs H Q E → vs.length = ps.length)
    (hbody : ∀ (cdv : Value) (A : Around) (outer : List Env) (s : Shared) (H : Hp) (vs : List V) (Q : VK) (E : XK), Room k (A.deeper (envOfC qual (defScope st) s.heap.objs.size f cdv)) → sp vs H Q E →
      ∃ tc t1 t2, PTF (cxOf CX0 P w K mg base N qual (defScope st) f cdv A outer s H E) c tc ∧ PEG (cxOf CX0 P w K mg base N qual (defScope st) f cdv A outer s H E) e1 t1 ∧ PEG (cxOf CX0 P w K mg base N qual (defScope st) f cdv A outer s H E) e2 t2 ∧
        tc (start N vs) H fun b H1 => if b = true then t1 (start N vs) H1 Q else t2 (start N vs) H1 Q) : FnT P w K mg base CX0 (k + 1) f sp := by
  obtain ⟨oc, od, kV, doc, pm, an, cdv, ct, osl, rfl, lk, hcd⟩ := F.ex
  intro A outer s H us vs Q E hr e0 r hsp
  have hl : us.length = ps.length := r.length.symm.trans (len _ _ _ _ hsp)
  have KX : K.In s.heap := e0.mod.kin.keeps fun b o e => (e0.bs b o e).1
  have lim : s.heap.NoLimit := e0.mod.nolimit.keeps fun b o e => (e0.bs b o e).1
  have hkind : ∀ y ∈ ps.zip us, (defScope st).names.lookup y.1 = some .local ∨ ((defScope st).names.lookup y.1 = some .cell ∧ ((cellsFrom (s.heap.objs.size + 1) (defScope st).names []).lookup y.1).isSome = true) := fun y hy => by
    rcases S.par y.1 (List.of_mem_zip hy).1 with q | q
    · exact .inl q
    · exact .inr ⟨q, PySem.W.cellsFrom_some _ _ _ (.inl q)⟩
  refine codeAny_call_function hr.depth (KX _ _ lk) rfl S.co S.gen rfl (PySem.W.codeRec_of KX hcd) (BindsTo.of_eq (hb kV doc pm an cdv ct us hl) _ _ _ _ ?_)
  refine wpAny_mono (tkE (Nat.le_refl s.toks) (wpAny_newFunctionEnv_cells S.kind hkind fun env he s1 x => (⟨he, x⟩ : env = _ ∧ InCallC s _ _ _ _ s1))) ?_ fun _ _ z => z
  rintro env s1 ⟨ht, rfl, x⟩
  refine ⟨lim.keeps x.toInCall.keep, codeAny_func ?_⟩
  obtain ⟨tc, t1, t2, hc, h1, h2, hq⟩ := hbody cdv A outer s H vs Q E (hr.deeper _) hsp
  have I : Inv (cxOf CX0 P w K mg base N qual (defScope st) f cdv A outer s H E) [] (start N vs) H s1 := inv_start S hr.hd e0 (len _ _ _ _ hsp) r x
  rw [hst]
  have fin : ∀ {s2 : Shared} {H2 : Hp} {e : Expr} {t : TE}, s.toks + 1 ≤ s2.toks → PEG (cxOf CX0 P w K mg base N qual (defScope st) f cdv A outer s H E) e t → Inv (cxOf CX0 P w K mg base N qual (defScope st) f cdv A outer s H E) [] (start N vs) H2 s2 → t (start N vs) H2 Q →
      ∀ {p : Pos}, wpAny (model P w) (cxOf CX0 P w K mg base N qual (defScope st) f cdv A outer s H E).A (exec (.Return (some e) p) (cxOf CX0 P w K mg base N qual (defScope st) f cdv A outer s H E).env) (fun fl s' => ∃ u, fl = .ret u ∧ CE outer P w H s Q u s' ∧ s.toks ≤ s'.toks ∧ Frsh (s.toks + 1) s'.toks u) (cxOf CX0 P w K mg base N qual (defScope st) f cdv A outer s H E).xe s2 := by
    intro s2 H2 e t l2 pe I2 q2 p
    refine wpAny_Return_some (wpAny_mono (pe.run [] s2 _ H2 Q I2 q2) ?_ fun _ _ z => z)
    rintro u s' ⟨⟨v, H', J, rv, q⟩, m1, xz, tz, rfl, m2, m3⟩
    exact ⟨_, rfl, ⟨v, H', J.os, J.bare, J.base, J.hok, rv, q⟩, by omega, xz, tz, rfl, by omega, m3⟩
  have run : wpAny (model P w) (cxOf CX0 P w K mg base N qual (defScope st) f cdv A outer s H E).A (execs [.If c [.Return (some e1) p1] [] p2, .Return (some e2) p3] (cxOf CX0 P w K mg base N qual (defScope st) f cdv A outer s H E).env) (fun fl s' => ∃ u, fl = .ret u ∧ CE outer P w H s Q u s' ∧ s.toks ≤ s'.toks ∧ Frsh (s.toks + 1) s'.toks u)
      (cxOf CX0 P w K mg base N qual (defScope st) f cdv A outer s H E).xe s1 := by
    refine wpAny_execs_cons (wpAny_If (thn (hc.run [] s1 _ H _ I hq) fun d s2 ⟨⟨H2, I2, q2⟩, l1⟩ => ?_))
    have l2 : s.toks + 1 ≤ s2.toks := Nat.le_trans (Nat.succ_le_succ ht) l1
    cases d with
    | true =>
      refine wpAny_execs_cons (wpAny_mono (fin l2 h1 I2 q2) ?_ fun _ _ z => z)
      rintro fl s3 ⟨u, rfl, r3⟩
      exact ⟨u, rfl, r3⟩
    | false =>
      refine wpAny_execs_nil ?_
      refine wpAny_execs_cons (wpAny_mono (fin l2 h2 I2 q2) ?_ fun _ _ z => z)
      rintro fl s3 ⟨u, rfl, r3⟩
      exact ⟨u, rfl, r3⟩
  refine wpAny_mono run ?_ ?_
  · rintro fl s' ⟨u, rfl, ce, l, fr⟩
    refine ⟨ce, fun u' e => ?_⟩
    injection e with e
    injection e with e
    subst e
    exact ⟨l, fr⟩
  · intro e s' h
    exact wpAny_mono h (fun _ _ h => ⟨h, fun _ e => nomatch e⟩) fun _ _ h => ⟨h, fun _ e => nomatch e⟩
/-! ### return ('swap', e1, e2), both new texts -/
def tSwapT (t1 t2 : TE) : TS := fun D σ H => t1 σ H fun x H1 => t2 σ H1 fun y H2 => ∃ a b : Str, x = .str a ∧ y = .str b ∧ ∀ p H3, H2 p = none → SwapAt H3 p a b → (∀ c, c ≠ p → H3 c = H2 c) → D.rt (.ref p) H3
theorem ps_retSwap {X : Cx} {e1 e2 : Expr} {t1 t2 : TE} {j k : Nat} {c p q : Pos} (h1 : PEF X e1 t1) (h2 : PEF X e2 t2)
    (hst : starEach [.Constant (.str "swap") j c, e1, e2] X.env = [(false, eval (.Constant (.str "swap") j c) X.env), (false, eval e1 X.env), (false, eval e2 X.env)] := by rfl) :
    PS X (.Return (some (.Tuple [.Constant (.str "swap") j c, e1, e2] k p)) q) (tSwapT t1 t2) := by
  constructor
  intro pins s σ H D I h
  refine wpAny_Return_some (Tuple_ ?_)
  rw [hst]
  show wpAny _ _ (spliced ((false, eval (.Constant (.str "swap") j c) X.env) :: (false, eval e1 X.env) :: [(false, eval e2 X.env)])) _ _ _
  refine Calls.spliced_cons (Calls.Constant_str (Calls.spliced_cons ?_))
  refine thn (h1.run pins _ σ H _ (I.tok _) h) ?_
  rintro u1 s1 ⟨⟨x, H1, I1, r1, h'⟩, l1, z1, k1, rfl, m1, m2⟩
  refine Calls.spliced_cons (thn (h2.run pins s1 σ H1 _ I1 h') ?_)
  rintro u2 s2 ⟨⟨y, H2, I2, r2, a, b, rfl, rfl, fin⟩, l2, z2, k2, rfl, m3, m4⟩
  obtain rfl : z1 = a := by obtain ⟨_, e⟩ := r1; injection e
  obtain rfl : z2 = b := by obtain ⟨_, e⟩ := r2; injection e
  refine Calls.spliced_nil (wpAny_newTuple ?_ (by show 3 ≤ sizeLine; decide))
  have new : H2 s2.heap.objs.size = none := I2.hok.fresh (Nat.le_refl _)
  refine ⟨.ref s2.heap.objs.size, σ, upd H2 s2.heap.objs.size (.frz { cls := .type "tuple", data := .seq #[.str "swap" s.toks, .str z1 k1, .str z2 k2] 0 } (.tup [.str "swap", .str z1, .str z2])), ?_, rfl, fin _ _ new ⟨0, _, k1, k2, upd_same, ?_, ?_, fun z => ?_⟩ fun b hb => upd_ne hb⟩
  · exact I2.laid (t' := s2.toks) (fun b o q => Heap.get?_push_of_some _ q) (Nat.le_refl _) ⟨Heap.get?_push_size _ rfl, by show 3 ≤ sizeLine; decide, [.str "swap" _, .str z1 k1, .str z2 k2], .cons ⟨_, rfl⟩ (.cons ⟨_, rfl⟩ (.cons ⟨_, rfl⟩ .nil)), ⟨_, Heap.get?_push_size _ rfl, rfl, _, rfl⟩⟩
  · exact Nat.ne_of_gt (Nat.lt_of_lt_of_le (Nat.succ_pos _) m1)
  · exact Nat.ne_of_gt (Nat.lt_of_lt_of_le (Nat.succ_pos _) m3)
  · subst z
    exact absurd (Nat.lt_of_lt_of_le m2 (Nat.le_of_succ_le m3)) (Nat.lt_irrefl _)
end Pd

set_option maxHeartbeats 2000000
namespace Pd
open PySem PySem.Spec PyProof.Rows L2
theorem callR_or {X : Cx} {f : Value} {r1 r2 : List V → Hp → VK → Prop} (h1 : CallR X f r1) (h2 : CallR X f r2) : CallR X f (fun xs H Q => r1 xs H Q ∨ r2 xs H Q) := by
  intro pins s σ H xs us Q I r h
  rcases h with h | h
  · exact h1 pins s σ H xs us Q I r h
  · exact h2 pins s σ H xs us Q I r h
/-- f(k = v, ..) -/
theorem pe_callK0 {X : Cx} {CX : CXT} {k : Nat} {f : Addr} {fd : FuncData} {ps ks : List Str} {sp : Sp} {E : XK} {x : Str} {p pos : Pos} {kws : List Keyword} {tk : TA} {g : List Value → List Value → List Value} {gV : List V → List V → List V}
    (F : FnOk X.prog X.w X.K X.mg X.base CX k f fd ps sp) (hr : Room k X.A) (hg : Gl X x) (hm : X.mg x = some (.ref f)) (hk : PySem.W.keepIn X.K (.ref f) = true) (hb : KBn X.K fd ps 0 ks g gV) (hx : Passes CX X E) (hkw : PK X kws tk)
    (hall : (backToKw pos (keywordEach kws X.env)).all (·.1.isSome) = true := by rfl) (hks : (backToKw pos (keywordEach kws X.env)).filterMap (·.1) = ks := by rfl) (hdb : (x == ("__debug__" : Str)) = false := by decide)
    (hpl : ((backTo pos (starEach [] X.env)).any (·.1) || (backToKw pos (keywordEach kws X.env)).any (·.1.isNone)) = false := by rfl) :
    PE X (.Call (.Name x p) [] kws pos) (tCallN 0 ks.length sp gV E tNil tk) := by
  constructor
  intro pins s σ H Q I h
  refine wpAny_Call_Name_kw (ld_glob I hg hm ?_ hdb)
  refine PySem.W.callWith_KW0 (h₀ := X.base) I.ok.mod.kin hk hall ?_ hpl
  refine thn (hkw.run pos pins s σ H _ I h) fun ws s2 ⟨zs, H2, I2, rz, l1, l2, q2⟩ => ⟨I2.kIn, ?_⟩
  rw [hks]
  exact L2.run_fnN (us := []) (vs := []) F hr hb hx I2 .nil rz rfl l2 q2
end Pd

set_option maxHeartbeats 4000000
namespace Pd
open PySem PySem.Spec PyProof.Rows L2
/-! ### raw values of local names, through calls -/
theorem Holds.at' {X : Cx} {s s' : Shared} {x : Str} {u : Value} (h : Holds X s x u) (e : ∀ o, s.heap.get? X.env.locals = some o → ∃ sl, s'.heap.get? X.env.locals = some { o with slots := sl }) : Holds X s' x u := by
  obtain ⟨kd, m, ⟨o, es, ep, h1, h2, h3, h4⟩, hm⟩ := h
  obtain ⟨sl, e1⟩ := e o h1
  exact ⟨kd, m, ⟨_, es, ep, e1, h2, h3, h4⟩, hm⟩
theorem Holds.up {X : Cx} {s s' : Shared} {x : Str} {u : Value} (h : Holds X s x u) (k : ∀ b o, s.heap.get? b = some o → s'.heap.get? b = some o) : Holds X s' x u := h.at' fun o e => ⟨o.slots, k _ _ e⟩
/-- an expression that leaves the local names as they are -/
structure PEH (X : Cx) (e : Expr) (t : TE) : Prop where
  run : ∀ (pins : List (Addr × Obj)) (s : Shared) (σ : L2.St) (H : Hp) (Q : VK), Inv X pins σ H s → t σ H Q →
    wpAny (model X.prog X.w) X.A (eval e X.env) (fun u s' => EP X pins σ Q u s' ∧ ∀ x w, Holds X s x w → Holds X s' x w) X.xe s
structure PAH (X : Cx) (es : List Expr) (t : TA) : Prop where
  run : ∀ (pos : Pos) (pins : List (Addr × Obj)) (s : Shared) (σ : L2.St) (H : Hp) (Q : List V → Hp → Prop), Inv X pins σ H s → t σ H Q →
    wpAny (model X.prog X.w) X.A (spliced (backTo pos (starEach es X.env))) (fun us s' => AP X pins σ Q us s' ∧ ∀ x w, Holds X s x w → Holds X s' x w) X.xe s
section
variable {X : Cx} {a b e : Expr} {es : List Expr} {ta tb te : TE} {tl : TA} {pos p : Pos}
theorem peh_int {n : Int} {j : Nat} : PEH X (.Constant (.int n) j pos) (tC (.int n)) :=
  ⟨fun pins s σ H Q I q => wpAny_Constant_int ⟨⟨.int n, H, I.tok _, ⟨_, rfl⟩, q⟩, fun x w h => h.up fun _ _ z => z⟩⟩
theorem peh_local {i : Nat} {x : Str} (hN : X.N[i]? = some x) (hv : X.env.scope.names.lookup x = some .local) (hd : (x == ("__debug__" : Str)) = false := by decide) : PEH X (.Name x pos) (tVar i) := by
  constructor
  intro pins s σ H Q I h
  obtain ⟨v, hσ, q⟩ := h
  obtain ⟨m, hn, hl⟩ := I.loc
  obtain ⟨u, r, l⟩ := hl i x _ hN hσ (.inl hv)
  rcases l with ⟨hk, hm⟩ | ⟨hk, _⟩
  · exact wpAny_Name (wpAny_loadName_local I.ok.kind hk hn hm ⟨⟨v, H, I, r, q⟩, fun _ _ z => z⟩) hd
  · have hv' : X.env.kindOf x = some .local := hv
    rw [hv'] at hk
    rcases hk with hk | hk <;> cases hk
theorem peh_add (ha : PEH X a ta) (hb : PEH X b tb) : PEH X (.BinOp a .Add b pos) (tOp (rI0 fun i j => .int (i + j)) ta tb) := by
  constructor
  intro pins s σ H Q I h
  refine wpAny_BinOp (thn (ha.run pins s σ H _ I h) ?_)
  rintro u s1 ⟨⟨x, H1, I1, r1, q1⟩, k1⟩
  refine thn (hb.run pins s1 σ H1 _ I1 q1) ?_
  rintro w s2 ⟨⟨y, H2, I2, r2, i, j, rfl, rfl, q⟩, k2⟩
  obtain ⟨t, rfl⟩ := r1
  obtain ⟨t', rfl⟩ := r2
  exact PyProof.Rows.add_int ⟨⟨.int (i + j), H2, I2.tok _, ⟨_, rfl⟩, q⟩, fun x w h => (k2 x w (k1 x w h)).up fun _ _ z => z⟩
theorem pah_nil : PAH X [] tNil := ⟨fun _ _ _ _ H Q I h => Calls.spliced_nil ⟨⟨[], H, I, .nil, h⟩, fun _ _ z => z⟩⟩
theorem pah_cons (ha : PEH X e te) (hr : PAH X es tl) (hs : starEach (e :: es) X.env = (false, eval e X.env) :: starEach es X.env := by rfl) : PAH X (e :: es) (tCons te tl) := by
  constructor
  intro pos pins s σ H Q I h
  rw [hs]
  show wpAny _ _ (spliced ((false, eval e X.env) :: backTo pos (starEach es X.env))) _ _ s
  refine Calls.spliced_cons (thn (ha.run pins s σ H _ I h) ?_)
  rintro w s1 ⟨⟨x, H1, I1, r1, q1⟩, k1⟩
  refine thn (hr.run pos pins s1 σ H1 _ I1 q1) ?_
  rintro us s2 ⟨⟨xs, H2, I2, r2, q2⟩, k2⟩
  exact ⟨⟨x :: xs, H2, I2, .cons r1 r2, q2⟩, fun x w h => k2 x w (k1 x w h)⟩
theorem peh_call {k : Nat} {f : Addr} {sp : Sp} {x : Str} {E : XK} (F : FnR X.prog X.w X.K X.mg X.base CX0 k f sp) (hr : Room k X.A) (hg : Gl X x) (hm : X.mg x = some (.ref f)) (hk : PySem.W.keepIn X.K (.ref f) = true)
    (ha : PAH X (e :: es) tl) (hdb : (x == ("__debug__" : Str)) = false := by decide) (he : starEach (e :: es) X.env = (false, eval e X.env) :: starEach es X.env := by rfl) (hpl : (backTo pos (starEach es X.env)).any (·.1) = false := by rfl) :
    PEH X (.Call (.Name x p) (e :: es) [] pos) (tCall sp [] E tl) := by
  constructor
  intro pins s σ H Q I h
  refine wpAny_Call_Name_kw (ld_glob I hg hm ?_ hdb)
  refine PySem.W.callWith_K (h₀ := X.base) I.ok.mod.kin hk (thn (ha.run pos pins s σ H _ I h) ?_) he hpl
  rintro us s1 ⟨⟨vs, H1, I1, r, q⟩, k1⟩
  rw [List.append_nil] at q
  refine ⟨I1.kIn, wpAny_call (codeAny_mono (F X.A X.stack s1 H1 us vs Q E hr I1.env0 r q) fun r s' hq => ?_)⟩
  cases r with
  | error e => exact pass0 pins σ H1 s1 e s' I1 hq
  | ok fl =>
    cases fl with
    | ret w =>
      have hq' : CE X.stack X.prog X.w H1 s1 Q w s' := hq
      obtain ⟨v, H', os, bare, un, hok, rv, q'⟩ := id hq'
      exact ⟨I1.after hq', fun x w h => (k1 x w h).at' fun o e => un.any e I1.free (by simp)⟩
    | next => exact False.elim hq
    | brk => exact False.elim hq
    | cont => exact False.elim hq
end
/-- a local name that holds an int -/
theorem name_int {X : Cx} {pins : List (Addr × Obj)} {σ : L2.St} {H : Hp} {s : Shared} {i : Nat} {x : Str} {n : Int} {pos : Pos} {Q E : Value → Shared → Prop} (hN : X.N[i]? = some x) (hv : X.env.scope.names.lookup x = some .local) (I : Inv X pins σ H s)
    (hσ : σ[i]? = some (some (.int n))) (q : ∀ t, Q (.int n t) s) (hd : (x == ("__debug__" : Str)) = false := by decide) : wpAny (model X.prog X.w) X.A (eval (.Name x pos) X.env) Q E s := by
  obtain ⟨m, hn, hl⟩ := I.loc
  obtain ⟨u, r, l⟩ := hl i x _ hN hσ (.inl hv)
  obtain ⟨t, rfl⟩ := r
  rcases l with ⟨hk, hm⟩ | ⟨hk, _⟩
  · exact wpAny_Name (wpAny_loadName_local I.ok.kind hk hn hm (q t)) hd
  · have hv' : X.env.kindOf x = some .local := hv
    rw [hv'] at hk
    rcases hk with hk | hk <;> cases hk
/-- a list of texts of unlike tokens, all below b -/
def TxtsB (b : Nat) (H : Hp) (a : Addr) (cs : List Str) : Prop :=
  ∃ (its : List Value) (n m k : Nat), H a = some (.frz { cls := .type "list", data := .seq its.toArray n } (.lst (cs.map V.str))) ∧ TkL m k cs its ∧ 1 ≤ m ∧ k ≤ b
theorem TxtsB.txts {b : Nat} {H : Hp} {a : Addr} {cs : List Str} (h : TxtsB b H a cs) : TxtsAt H a cs := by
  obtain ⟨its, n, m, k, e, t, l, _⟩ := h
  exact ⟨its, n, m, k, e, t, l⟩
theorem TxtsB.same {b : Nat} {H H' : Hp} {a : Addr} {cs : List Str} (h : TxtsB b H a cs) (e : H' a = H a) : TxtsB b H' a cs := by
  obtain ⟨its, n, m, k, e1, r⟩ := h
  exact ⟨its, n, m, k, e.trans e1, r⟩
/-- ('once', a), its text's token below b -/
def OnceB (b : Nat) (H : Hp) (p : Addr) (a : Str) : Prop :=
  ∃ (n : Nat) (t0 t : Tok), H p = some (.frz { cls := .type "tuple", data := .seq #[.str "once" t0, .str a t] n } (.tup [.str "once", .str a])) ∧ t ≠ 0 ∧ t < b
/-- way, one, two = ..; if way == 2: ..; cut = ('cut', ..); return [.., .., (), .., .., cut][way] -/
def tSix (iw io it ic ig : Nat) (t1 ti ti2 tc : TE) (t0 : TS) : TS := fun D σ H => t1 σ H fun x H1 => ∃ (n : Int) (a : Addr) (cs : List Str) (b : Nat), x = .int n ∧ 0 ≤ n ∧ n < 6 ∧ σ[ig]? = some (some (.ref a)) ∧ cs.length ≤ 1000 ∧ TxtsB b H1 a cs ∧
  ti σ H1 fun y H2 => ∃ (i : Int) (c : Str), y = .int i ∧ H2 a = H1 a ∧ 0 ≤ i ∧ cs[i.toNat]? = some c ∧
  ti2 σ H2 fun y2 H3 => ∃ (j : Int) (d : Str), y2 = .int j ∧ H3 a = H2 a ∧ 0 ≤ j ∧ cs[j.toNat]? = some d ∧
  (n = 2 → t0 { D with nx := fun _ _ => False } (((σ.set iw (some (.int n))).set io (some (.str c))).set it (some (.str d))) H3) ∧
  (n ≠ 2 → tc (((σ.set iw (some (.int n))).set io (some (.str c))).set it (some (.str d))) H3 fun z H4 => ∃ m : Int, z = .int m ∧ ∀ q, H4 q = none →
    (n = 5 → D.rt (.ref q) (upd H4 q (.tup [.str "cut", .int m]))) ∧ ∀ p, p ≠ q → H4 p = none →
    (n = 0 → D.rt (.ref p) (upd (upd H4 q (.tup [.str "cut", .int m])) p (.tup [.str "lower"]))) ∧
    (n = 1 → ∀ H6, SwapAt H6 p c d → (∀ b', b' ≠ p → H6 b' = (upd H4 q (.tup [.str "cut", .int m])) b') → D.rt (.ref p) H6) ∧
    (n = 3 → D.rt (.ref p) (upd (upd H4 q (.tup [.str "cut", .int m])) p (.tup [.str "lead", .str c]))) ∧
    (n = 4 → ∀ H6, OnceB b H6 p c → (∀ b', b' ≠ p → H6 b' = (upd H4 q (.tup [.str "cut", .int m])) b') → D.rt (.ref p) H6))
theorem TkL.got {n m i : Nat} {c : Str} {t : Nat} {cs : List Str} {us : List Value} (h : TkL n m cs us) (e1 : cs[i]? = some c) (e2 : us[i]? = some (.str c t)) : n ≤ t ∧ t < m := by
  obtain ⟨t', e3, l1, l2⟩ := h.get e1
  rw [e2] at e3
  cases e3
  exact ⟨l1, l2⟩
/-- s' is s with new objects and tokens -/
structure Nw (X : Cx) (s s' : Shared) : Prop where
  k : ∀ b u, s.heap.get? b = some u → s'.heap.get? b = some u
  sz : s.heap.objs.size ≤ s'.heap.objs.size
  eq : s' = { s with heap := s'.heap, toks := s'.toks }
theorem Nw.inv {X : Cx} {s s' : Shared} (n : Nw X s s') {pins : List (Addr × Obj)} {σ : L2.St} {H : Hp} (I : Inv X pins σ H s) : Inv X pins σ H s' := by
  rw [n.eq]
  exact I.kept n.k
theorem Nw.trans {X : Cx} {s s' s'' : Shared} (a : Nw X s s') (b : Nw X s' s'') : Nw X s s'' := ⟨fun c u z => b.k c u (a.k c u z), Nat.le_trans a.sz b.sz, by
  have e := b.eq
  rw [a.eq] at e
  exact e⟩
theorem Nw.push {X : Cx} {s : Shared} {o : Obj} {t : Nat} : Nw X s { s with heap := s.heap.push o, toks := t } := ⟨fun _ _ z => Heap.get?_push_of_some _ z, by show _ ≤ (s.heap.push o).objs.size; rw [Heap.size_push]; exact Nat.le_succ _, rfl⟩
def tupO (us : List Value) : Obj := { cls := .type "tuple", data := .seq us.toArray }
section
variable {X : Cx} {s : Shared} {R E : Value → Shared → Prop} {w : Str} {j k : Nat} {c p a b : Pos} {x y : Str} {u v : Value}
theorem tup_w1 (hst : starEach [.Constant (.str w) j c] X.env = [(false, eval (.Constant (.str w) j c) X.env)]) (fin : ∀ s' t, Nw X s s' → s'.heap.get? s.heap.objs.size = some (tupO [.str w t]) → R (.ref s.heap.objs.size) s') :
    wpAny (model X.prog X.w) X.A (eval (.Tuple [.Constant (.str w) j c] k p) X.env) R E s := by
  refine Tuple_ ?_
  rw [hst]
  show wpAny _ _ (spliced [(false, eval (.Constant (.str w) j c) X.env)]) _ _ _
  exact Calls.spliced_cons (Calls.Constant_str (Calls.spliced_nil (wpAny_newTuple (fin _ _ .push (Heap.get?_push_size _ rfl)) (by show 1 ≤ sizeLine; decide))))
theorem tup_w0 (fin : ∀ s', Nw X s s' → R (.ref s.heap.objs.size) s') : wpAny (model X.prog X.w) X.A (eval (.Tuple [] k p) X.env) R E s :=
  Tuple_ (Calls.spliced_nil (wpAny_newTuple (fin _ .push) (by show 0 ≤ sizeLine; decide)))
theorem tup_w2 {pins : List (Addr × Obj)} {σ : L2.St} {H : Hp} (I : Inv X pins σ H s) (K : Holds X s x u) (hd : (x == ("__debug__" : Str)) = false) (hst : starEach [.Constant (.str w) j c, .Name x a] X.env = [(false, eval (.Constant (.str w) j c) X.env), (false, eval (.Name x a) X.env)])
    (fin : ∀ s' t, Nw X s s' → s'.heap.get? s.heap.objs.size = some (tupO [.str w t, u]) → R (.ref s.heap.objs.size) s') :
    wpAny (model X.prog X.w) X.A (eval (.Tuple [.Constant (.str w) j c, .Name x a] k p) X.env) R E s := by
  refine Tuple_ ?_
  rw [hst]
  show wpAny _ _ (spliced ((false, eval (.Constant (.str w) j c) X.env) :: [(false, eval (.Name x a) X.env)])) _ _ _
  exact Calls.spliced_cons (Calls.Constant_str (Calls.spliced_cons ((K.tok _).load (I.tok _) (Calls.spliced_nil (wpAny_newTuple (fin _ _ .push (Heap.get?_push_size _ rfl)) (by show 2 ≤ sizeLine; decide))) hd)))
theorem tup_w3 {pins : List (Addr × Obj)} {σ : L2.St} {H : Hp} (I : Inv X pins σ H s) (K : Holds X s x u) (K2 : Holds X s y v) (hd : (x == ("__debug__" : Str)) = false) (hd2 : (y == ("__debug__" : Str)) = false)
    (hst : starEach [.Constant (.str w) j c, .Name x a, .Name y b] X.env = [(false, eval (.Constant (.str w) j c) X.env), (false, eval (.Name x a) X.env), (false, eval (.Name y b) X.env)])
    (fin : ∀ s' t, Nw X s s' → s'.heap.get? s.heap.objs.size = some (tupO [.str w t, u, v]) → R (.ref s.heap.objs.size) s') :
    wpAny (model X.prog X.w) X.A (eval (.Tuple [.Constant (.str w) j c, .Name x a, .Name y b] k p) X.env) R E s := by
  refine Tuple_ ?_
  rw [hst]
  show wpAny _ _ (spliced ((false, eval (.Constant (.str w) j c) X.env) :: (false, eval (.Name x a) X.env) :: [(false, eval (.Name y b) X.env)])) _ _ _
  exact Calls.spliced_cons (Calls.Constant_str (Calls.spliced_cons ((K.tok _).load (I.tok _) (Calls.spliced_cons ((K2.tok _).load (I.tok _) (Calls.spliced_nil (wpAny_newTuple (fin _ _ .push (Heap.get?_push_size _ rfl)) (by show 3 ≤ sizeLine; decide))) hd2)) hd)))
end
/-- [('lower',), ('swap', one, two), (), ('lead', one), ('once', one), cut][way] -/
theorem six_ret {X : Cx} {pins : List (Addr × Obj)} {σ : L2.St} {H : Hp} {s : Shared} {R : Value → Shared → Prop} {iw ic : Nat} {wx ox tx cx : Str} {k2 k3 k4 k5 k6 : Nat} {j2 j3 j4 j5 : Nat} {d1 d2 d3 d4 d5 d6 d7 d8 d9 d10 d11 d12 d13 d14 d15 d16 d17 : Pos} {c d : Str} {t t2 : Tok} {n : Int} {q : Addr}
    (hw : X.N[iw]? = some wx) (hcu : X.N[ic]? = some cx) (lw : X.env.scope.names.lookup wx = some .local) (lc : X.env.scope.names.lookup cx = some .local) (I : Inv X pins σ H s) (Ko : Holds X s ox (.str c t)) (Kt : Holds X s tx (.str d t2))
    (sw : σ[iw]? = some (some (.int n))) (sc : σ[ic]? = some (some (.ref q))) (n0 : 0 ≤ n) (n6 : n < 6) (ne2 : n ≠ 2)
    (dw : (wx == ("__debug__" : Str)) = false) (dO : (ox == ("__debug__" : Str)) = false) (dt : (tx == ("__debug__" : Str)) = false) (dc : (cx == ("__debug__" : Str)) = false)
    (hs1 : starEach [.Constant (.str "lower") j2 d1] X.env = [(false, eval (.Constant (.str "lower") j2 d1) X.env)])
    (hs2 : starEach [.Constant (.str "swap") j3 d3, .Name ox d4, .Name tx d5] X.env = [(false, eval (.Constant (.str "swap") j3 d3) X.env), (false, eval (.Name ox d4) X.env), (false, eval (.Name tx d5) X.env)])
    (hs3 : starEach [.Constant (.str "lead") j4 d8, .Name ox d9] X.env = [(false, eval (.Constant (.str "lead") j4 d8) X.env), (false, eval (.Name ox d9) X.env)])
    (hs4 : starEach [.Constant (.str "once") j5 d11, .Name ox d12] X.env = [(false, eval (.Constant (.str "once") j5 d11) X.env), (false, eval (.Name ox d12) X.env)])
    (hs6 : starEach [.Tuple [.Constant (.str "lower") j2 d1] k2 d2, .Tuple [.Constant (.str "swap") j3 d3, .Name ox d4, .Name tx d5] k3 d6, .Tuple [] k4 d7, .Tuple [.Constant (.str "lead") j4 d8, .Name ox d9] k5 d10, .Tuple [.Constant (.str "once") j5 d11, .Name ox d12] k6 d13, .Name cx d14] X.env =
      [(false, eval (.Tuple [.Constant (.str "lower") j2 d1] k2 d2) X.env), (false, eval (.Tuple [.Constant (.str "swap") j3 d3, .Name ox d4, .Name tx d5] k3 d6) X.env), (false, eval (.Tuple [] k4 d7) X.env), (false, eval (.Tuple [.Constant (.str "lead") j4 d8, .Name ox d9] k5 d10) X.env), (false, eval (.Tuple [.Constant (.str "once") j5 d11, .Name ox d12] k6 d13) X.env), (false, eval (.Name cx d14) X.env)])
    (pix : PlainIx (.Name wx d16))
    (f5 : n = 5 → ∀ s', Inv X pins σ H s' → R (.ref q) s')
    (f0 : n = 0 → ∀ p s', H p = none → Inv X pins σ (upd H p (.tup [.str "lower"])) s' → R (.ref p) s')
    (f1 : n = 1 → ∀ p t0 s', H p = none → Inv X pins σ (upd H p (.frz (tupO [.str "swap" t0, .str c t, .str d t2]) (.tup [.str "swap", .str c, .str d]))) s' → R (.ref p) s')
    (f3 : n = 3 → ∀ p s', H p = none → Inv X pins σ (upd H p (.tup [.str "lead", .str c])) s' → R (.ref p) s')
    (f4 : n = 4 → ∀ p t0 s', H p = none → Inv X pins σ (upd H p (.frz (tupO [.str "once" t0, .str c t]) (.tup [.str "once", .str c]))) s' → R (.ref p) s') :
    wpAny (model X.prog X.w) X.A (eval (.Subscript (.List [.Tuple [.Constant (.str "lower") j2 d1] k2 d2, .Tuple [.Constant (.str "swap") j3 d3, .Name ox d4, .Name tx d5] k3 d6, .Tuple [] k4 d7, .Tuple [.Constant (.str "lead") j4 d8, .Name ox d9] k5 d10, .Tuple [.Constant (.str "once") j5 d11, .Name ox d12] k6 d13, .Name cx d14] d15) (.Name wx d16) d17) X.env) R X.xe s := by
  refine Subscript_ (wpAny_List_spliced ?_)
  rw [hs6]
  show wpAny _ _ (spliced ((false, eval (.Tuple [.Constant (.str "lower") j2 d1] k2 d2) X.env) :: (false, eval (.Tuple [.Constant (.str "swap") j3 d3, .Name ox d4, .Name tx d5] k3 d6) X.env) :: (false, eval (.Tuple [] k4 d7) X.env) :: (false, eval (.Tuple [.Constant (.str "lead") j4 d8, .Name ox d9] k5 d10) X.env) :: (false, eval (.Tuple [.Constant (.str "once") j5 d11, .Name ox d12] k6 d13) X.env) :: [(false, eval (.Name cx d14) X.env)])) _ _ _
  refine Calls.spliced_cons (tup_w1 hs1 fun s1 tk1 N1 g1 => ?_)
  refine Calls.spliced_cons (tup_w3 (N1.inv I) (Ko.up N1.k) (Kt.up N1.k) dO dt hs2 fun s2 tk2 N2 g2 => ?_)
  have M2 := N1.trans N2
  refine Calls.spliced_cons (tup_w0 fun s3 N3 => ?_)
  have M3 := M2.trans N3
  refine Calls.spliced_cons (tup_w2 (M3.inv I) (Ko.up M3.k) dO hs3 fun s4 tk4 N4 g4 => ?_)
  have M4 := M3.trans N4
  refine Calls.spliced_cons (tup_w2 (M4.inv I) (Ko.up M4.k) dO hs4 fun s5 tk5 N5 g5 => ?_)
  have M5 := M4.trans N5
  refine Calls.spliced_cons (name_ref hcu lc (M5.inv I) sc (Calls.spliced_nil ⟨by show 6 ≤ sizeLine; decide, ?_⟩) dc)
  have gl : (s5.heap.push { cls := .type "list", data := .seq [Value.ref s.heap.objs.size, .ref s1.heap.objs.size, .ref s2.heap.objs.size, .ref s3.heap.objs.size, .ref s4.heap.objs.size, .ref q].toArray }).get? s5.heap.objs.size = some { cls := .type "list", data := .seq [Value.ref s.heap.objs.size, .ref s1.heap.objs.size, .ref s2.heap.objs.size, .ref s3.heap.objs.size, .ref s4.heap.objs.size, .ref q].toArray } := Heap.get?_push_size _ rfl
  have N6 : Nw X s5 { s5 with heap := s5.heap.push { cls := .type "list", data := .seq [Value.ref s.heap.objs.size, .ref s1.heap.objs.size, .ref s2.heap.objs.size, .ref s3.heap.objs.size, .ref s4.heap.objs.size, .ref q].toArray } } := .push
  generalize hs6' : ({ s5 with heap := s5.heap.push { cls := .type "list", data := .seq [Value.ref s.heap.objs.size, .ref s1.heap.objs.size, .ref s2.heap.objs.size, .ref s3.heap.objs.size, .ref s4.heap.objs.size, .ref q].toArray } } : Shared) = s6 at N6 ⊢
  replace gl : s6.heap.get? s5.heap.objs.size = some { cls := .type "list", data := .seq [Value.ref s.heap.objs.size, .ref s1.heap.objs.size, .ref s2.heap.objs.size, .ref s3.heap.objs.size, .ref s4.heap.objs.size, .ref q].toArray } := by rw [← hs6']; exact gl
  clear hs6'
  have M6 := M5.trans N6
  have lst : s6.heap.IsList s5.heap.objs.size #[Value.ref s.heap.objs.size, .ref s1.heap.objs.size, .ref s2.heap.objs.size, .ref s3.heap.objs.size, .ref s4.heap.objs.size, .ref q] := ⟨_, gl, rfl, _, rfl⟩
  refine name_int hw lw (M6.inv I) sw (fun tw => ?_) dw
  have key : ∀ {p : Addr}, s.heap.objs.size ≤ p → H p = none := fun l => I.hok.fresh l
  have lay : ∀ {p : Addr} {o : HO}, s.heap.objs.size ≤ p → ObjOk X.prog X.w (upd H p o) s6.heap p o → Inv X pins σ (upd H p o) s6 := fun {p o} l w => by
    have z := I.laid (t' := s6.toks) (h' := s6.heap) M6.k l w
    rw [M6.eq]
    exact z
  have nn5 : n = 0 ∨ n = 1 ∨ n = 3 ∨ n = 4 ∨ n = 5 := by omega
  have l2 : 1 ≤ sizeLine ∧ 2 ≤ sizeLine ∧ 3 ≤ sizeLine := by decide
  rcases nn5 with rfl | rfl | rfl | rfl | rfl
  · refine item_listR lst (by decide) (by decide) (x := .ref s.heap.objs.size) rfl (f0 rfl _ _ (key (Nat.le_refl _)) (lay (Nat.le_refl _) ⟨l2.1, [.str "lower" tk1], .cons ⟨_, rfl⟩ .nil, ⟨_, ((((N2.trans N3).trans N4).trans N5).trans N6).k _ _ g1, rfl, _, rfl⟩⟩)) (pix _ _)
  · refine item_listR lst (by decide) (by decide) (x := .ref s1.heap.objs.size) rfl (f1 rfl _ tk2 _ (key N1.sz) (lay N1.sz ?_)) (pix _ _)
    have g := (((N3.trans N4).trans N5).trans N6).k _ _ g2
    exact ⟨g, l2.2.2, [.str "swap" tk2, .str c t, .str d t2], .cons ⟨_, rfl⟩ (.cons ⟨_, rfl⟩ (.cons ⟨_, rfl⟩ .nil)), ⟨_, g, rfl, _, rfl⟩⟩
  · exact item_listR lst (by decide) (by decide) (x := .ref s3.heap.objs.size) rfl (f3 rfl _ _ (key M3.sz) (lay M3.sz ⟨l2.2.1, [.str "lead" tk4, .str c t], .cons ⟨_, rfl⟩ (.cons ⟨_, rfl⟩ .nil), ⟨_, (N5.trans N6).k _ _ g4, rfl, _, rfl⟩⟩)) (pix _ _)
  · refine item_listR lst (by decide) (by decide) (x := .ref s4.heap.objs.size) rfl (f4 rfl _ tk5 _ (key M4.sz) (lay M4.sz ?_)) (pix _ _)
    have g := N6.k _ _ g5
    exact ⟨g, l2.2.1, [.str "once" tk5, .str c t], .cons ⟨_, rfl⟩ (.cons ⟨_, rfl⟩ .nil), ⟨_, g, rfl, _, rfl⟩⟩
  · exact item_listR lst (by decide) (by decide) (x := .ref q) rfl (f5 rfl _ (M6.inv I)) (pix _ _)
set_option maxHeartbeats 8000000 in
theorem pss_six {X : Cx} {iw io it ic ig : Nat} {wx ox tx cx gx : Str} {e1 idx idx2 ec : Expr} {t1 ti ti2 tc : TE} {t0 : TS} {r0 : List Stmt} {k0 k1 k2 k3 k4 k5 k6 k7 : Nat} {j0 j1 j2 j3 j4 j5 : Nat}
    {a1 a2 a3 a4 a5 a6 a7 a8 a9 a10 b1 b2 b3 b4 c1 c2 c3 c4 d1 d2 d3 d4 d5 d6 d7 d8 d9 d10 d11 d12 d13 d14 d15 d16 d17 d18 : Pos} (hc : X.calm = true) (hN : X.N.Nodup)
    (hw : X.N[iw]? = some wx) (ho : X.N[io]? = some ox) (ht : X.N[it]? = some tx) (hcu : X.N[ic]? = some cx) (hg : X.N[ig]? = some gx) (n1 : iw ≠ io) (n2 : iw ≠ it) (n3 : io ≠ it) (n4 : ic ≠ iw) (n5 : ic ≠ io) (n6 : ic ≠ it)
    (lw : X.env.scope.names.lookup wx = some .local) (lo : X.env.scope.names.lookup ox = some .local) (lt : X.env.scope.names.lookup tx = some .local) (lc : X.env.scope.names.lookup cx = some .local) (lg : X.env.scope.names.lookup gx = some .local)
    (h1 : PE X e1 t1) (hi : PE X idx ti) (hi2 : PE X idx2 ti2) (p1 : PlainIx idx) (p2 : PlainIx idx2) (h0 : PSs X r0 t0) (hec : PEH X ec tc)
    (dw : (wx == ("__debug__" : Str)) = false) (dO : (ox == ("__debug__" : Str)) = false) (dt : (tx == ("__debug__" : Str)) = false) (dc : (cx == ("__debug__" : Str)) = false) (dg : (gx == ("__debug__" : Str)) = false)
    (hst : starEach [e1, .Subscript (.Name gx a1) idx a2, .Subscript (.Name gx a3) idx2 a4] X.env = [(false, eval e1 X.env), (false, eval (.Subscript (.Name gx a1) idx a2) X.env), (false, eval (.Subscript (.Name gx a3) idx2 a4) X.env)])
    (hsc : starEach [.Constant (.str "cut") j1 c1, ec] X.env = [(false, eval (.Constant (.str "cut") j1 c1) X.env), (false, eval ec X.env)])
    (hs1 : starEach [.Constant (.str "lower") j2 d1] X.env = [(false, eval (.Constant (.str "lower") j2 d1) X.env)])
    (hs2 : starEach [.Constant (.str "swap") j3 d3, .Name ox d4, .Name tx d5] X.env = [(false, eval (.Constant (.str "swap") j3 d3) X.env), (false, eval (.Name ox d4) X.env), (false, eval (.Name tx d5) X.env)])
    (hs3 : starEach [.Constant (.str "lead") j4 d8, .Name ox d9] X.env = [(false, eval (.Constant (.str "lead") j4 d8) X.env), (false, eval (.Name ox d9) X.env)])
    (hs4 : starEach [.Constant (.str "once") j5 d11, .Name ox d12] X.env = [(false, eval (.Constant (.str "once") j5 d11) X.env), (false, eval (.Name ox d12) X.env)])
    (hs6 : starEach [.Tuple [.Constant (.str "lower") j2 d1] k2 d2, .Tuple [.Constant (.str "swap") j3 d3, .Name ox d4, .Name tx d5] k3 d6, .Tuple [] k4 d7, .Tuple [.Constant (.str "lead") j4 d8, .Name ox d9] k5 d10, .Tuple [.Constant (.str "once") j5 d11, .Name ox d12] k6 d13, .Name cx d14] X.env =
      [(false, eval (.Tuple [.Constant (.str "lower") j2 d1] k2 d2) X.env), (false, eval (.Tuple [.Constant (.str "swap") j3 d3, .Name ox d4, .Name tx d5] k3 d6) X.env), (false, eval (.Tuple [] k4 d7) X.env), (false, eval (.Tuple [.Constant (.str "lead") j4 d8, .Name ox d9] k5 d10) X.env), (false, eval (.Tuple [.Constant (.str "once") j5 d11, .Name ox d12] k6 d13) X.env), (false, eval (.Name cx d14) X.env)])
    (hsw : swappedStores [.Tuple [.Name wx a5, .Name ox a6, .Name tx a7] k0 a8] (.Tuple [e1, .Subscript (.Name gx a1) idx a2, .Subscript (.Name gx a3) idx2 a4] k1 a9) X.env = pure (some [wx, ox, tx]))
    (hss : swapsWithSole [.Tuple [.Name wx a5, .Name ox a6, .Name tx a7] k0 a8] (.Tuple [e1, .Subscript (.Name gx a1) idx a2, .Subscript (.Name gx a3) idx2 a4] k1 a9) a10.line X.env = pure false)
    (hcs : swapsWith (.Tuple [.Constant (.str "cut") j1 c1, ec] k7 c2) (some (.Name cx c3)) c4.line X.env = pure false) (pix : PlainIx (.Name wx d16)) :
    PSs X [.Assign [.Tuple [.Name wx a5, .Name ox a6, .Name tx a7] k0 a8] (.Tuple [e1, .Subscript (.Name gx a1) idx a2, .Subscript (.Name gx a3) idx2 a4] k1 a9) a10,
      .If (.Compare (.Name wx b1) [.Eq] [.Constant (.int 2) j0 b2] b3) r0 [] b4,
      .Assign [.Name cx c3] (.Tuple [.Constant (.str "cut") j1 c1, ec] k7 c2) c4,
      .Return (some (.Subscript (.List [.Tuple [.Constant (.str "lower") j2 d1] k2 d2, .Tuple [.Constant (.str "swap") j3 d3, .Name ox d4, .Name tx d5] k3 d6, .Tuple [] k4 d7, .Tuple [.Constant (.str "lead") j4 d8, .Name ox d9] k5 d10, .Tuple [.Constant (.str "once") j5 d11, .Name ox d12] k6 d13, .Name cx d14] d15) (.Name wx d16) d17)) d18]
      (tSix iw io it ic ig t1 ti ti2 tc t0) := by
  constructor
  intro pins s σ H D I h
  refine wpAny_execs_cons ?_
  rw [exec_Assign_arm]
  refine wpAny_bind (wpAny_standAt ?_)
  rw [hss]
  refine wpAny_bind (wpAny_pure ?_)
  rw [if_neg (by decide)]
  refine wpAny_bind (Tuple_ ?_)
  rw [hst]
  show wpAny _ _ (spliced ((false, eval e1 X.env) :: (false, eval (.Subscript (.Name gx a1) idx a2) X.env) :: [(false, eval (.Subscript (.Name gx a3) idx2 a4) X.env)])) _ _ s
  refine Calls.spliced_cons (thn (h1.run pins s σ H _ I h) ?_)
  rintro u1 s1 ⟨x, H1, I1, r1, n, a, cs, b, rfl, hn0, hn6, hσ, hz, ⟨its, nn, m, k, hf, tk, hm, hkb⟩, h2⟩
  refine Calls.spliced_cons (pick_raw (n := nn) hg lg I1 hσ hi p1 tk hz h2 ?_ dg)
  rintro y H2 ⟨i, c, rfl, ha, h0', hcs', h3⟩
  refine ⟨i, c, rfl, ha.trans hf, h0', hcs', fun s2 t I2 e2 hmt _ => ?_⟩
  refine Calls.spliced_cons (pick_raw (n := nn) hg lg I2 hσ hi2 p2 tk hz h3 ?_ dg)
  rintro y2 H3 ⟨j, d, rfl, ha3, hj, hd, w2, wn⟩
  refine ⟨j, d, rfl, ha3.trans (ha.trans hf), hj, hd, fun s3 t2 I3 e3 hmt2 _ => Calls.spliced_nil ?_⟩
  obtain ⟨tn, rfl⟩ := r1
  refine wpAny_newObj_type ?_ (by show 3 ≤ sizeLine; decide)
  have I4 : Inv X pins σ H3 { s3 with heap := s3.heap.push { cls := .type "tuple", data := .seq [Value.int n tn, .str c t, .str d t2].toArray } } := I3.kept (t' := s3.toks) fun b o e => Heap.get?_push_of_some _ e
  rw [hsw]
  refine wpAny_bind (wpAny_pure ?_)
  show wpAny (model X.prog X.w) X.A (do rule "assign.swapped-stores"; let items ← unpackItems (.ref s3.heap.objs.size) 3 none; assignInOrder [fun v => bindName X.env tx v, fun v => bindName X.env ox v, fun v => bindName X.env wx v] items.reverse; pure Flow.next) _ _ _
  refine wpAny_bind (wpAny_rule (wpAny_bind (unpackItems_tuple (items := #[Value.int n tn, .str c t, .str d t2]) (I.ok.hd hc) (IsTup.new s3.heap _) fun g hx' => ?_)))
  have I5 := I4.kept (h' := g) (t' := s3.toks) fun b o e => hx' b o (Nat.ne_of_lt (Heap.lt_size e)) e
  show wpAny _ _ (assignInOrder [fun v => bindName X.env tx v, fun v => bindName X.env ox v, fun v => bindName X.env wx v] [Value.str d t2, .str c t, .int n tn] >>= fun _ => pure Flow.next) _ _ _
  refine wpAny_bind (assignInOrder_cons (wpAny_bindName (store_raw (v := V.str d) I5 hN ht lt ⟨t2, rfl⟩ fun s5 I6 K6 _ _ => ?_)))
  refine assignInOrder_cons (wpAny_bindName (store_raw (v := V.str c) I6 hN ho lo ⟨t, rfl⟩ fun s6 I7 K7 keep7 _ => ?_))
  refine assignInOrder_cons (wpAny_bindName (store_raw (v := V.int n) I7 hN hw lw ⟨tn, rfl⟩ fun s7 I8 _ keep8 _ => assignInOrder_nil (wpAny_pure ?_)))
  have neq : ∀ {p q : Nat} {z z' : Str}, X.N[p]? = some z → X.N[q]? = some z' → p ≠ q → z ≠ z' := fun e1 e2 ne e => ne (nodup_ix hN e1 (e ▸ e2))
  have Kt : Holds X s7 tx (.str d t2) := keep8 tx _ (neq ht hw (Ne.symm n2)) (keep7 tx _ (neq ht ho (Ne.symm n3)) K6)
  have Ko : Holds X s7 ox (.str c t) := keep8 ox _ (neq ho hw (Ne.symm n1)) K7
  rw [List.set_comm _ _ (Ne.symm n3), List.set_comm _ _ (Ne.symm n2), List.set_comm _ _ (Ne.symm n1)] at I8
  have hl : σ.length = X.N.length := I.len
  have bd : ∀ {p : Nat} {z : Str}, X.N[p]? = some z → p < σ.length := fun e => by rw [hl]; exact (List.getElem?_eq_some_iff.mp e).1
  have sw : (((σ.set iw (some (V.int n))).set io (some (.str c))).set it (some (.str d)))[iw]? = some (some (.int n)) := by
    rw [List.getElem?_set_ne (Ne.symm n2), List.getElem?_set_ne (Ne.symm n1), List.getElem?_set_self (bd hw)]
  have lσ : (((σ.set iw (some (V.int n))).set io (some (.str c))).set it (some (.str d))).length = σ.length := by simp
  generalize hS : ((σ.set iw (some (V.int n))).set io (some (V.str c))).set it (some (V.str d)) = σ' at *
  -- if way == 2
  refine wpAny_execs_cons (wpAny_If (test_int hw lw I8 sw ?_ dw))
  by_cases e0 : n = 2
  · have e : (n == 2) = true := by simp [e0]
    rw [e]
    refine thn (h0.run pins _ σ' H3 _ (I8.tok _) (w2 e0)) fun f s9 q => ?_
    cases f with
    | next => obtain ⟨_, _, _, z⟩ := q; exact z.elim
    | ret v => exact q
    | brk => exact q
    | cont => exact q
  have e : (n == 2) = false := by simp [e0]
  rw [e]
  refine wpAny_execs_nil ?_
  -- cut = ..
  refine wpAny_execs_cons (wpAny_Assign_Name (Tuple_ ?_) hcs)
  rw [hsc]
  show wpAny _ _ (spliced ((false, eval (.Constant (.str "cut") j1 c1) X.env) :: [(false, eval ec X.env)])) _ _ _
  refine Calls.spliced_cons (Calls.Constant_str (Calls.spliced_cons ?_))
  refine thn (hec.run pins _ σ' H3 _ ((I8.tok _).tok _) (wn e0)) ?_
  rintro uc s10 ⟨⟨z, H4, I10, rz, mm, rfl, fin⟩, kh⟩
  obtain ⟨tm, rfl⟩ := rz
  have Kt10 : Holds X s10 tx (.str d t2) := kh tx _ ((Kt.tok _).tok _)
  have Ko10 : Holds X s10 ox (.str c t) := kh ox _ ((Ko.tok _).tok _)
  refine Calls.spliced_nil (wpAny_newTuple ?_ (by show 2 ≤ sizeLine; decide))
  have nq : H4 s10.heap.objs.size = none := I10.hok.fresh (Nat.le_refl _)
  obtain ⟨f5, fp⟩ := fin _ nq
  have I11 : Inv X pins σ' (upd H4 s10.heap.objs.size (.tup [.str "cut", .int mm])) { s10 with heap := s10.heap.push { cls := .type "tuple", data := .seq [Value.str "cut" (s7.toks + 1), .int mm tm].toArray } } :=
    I10.laid (t' := s10.toks) (fun b o q => Heap.get?_push_of_some _ q) (Nat.le_refl _) ⟨by show 2 ≤ sizeLine; decide, [.str "cut" _, .int mm tm], .cons ⟨_, rfl⟩ (.cons ⟨_, rfl⟩ .nil), ⟨_, Heap.get?_push_size _ rfl, rfl, _, rfl⟩⟩
  generalize hq : s10.heap.objs.size = q at *
  have Kt11 := Kt10.up (s' := { s10 with heap := s10.heap.push { cls := .type "tuple", data := .seq [Value.str "cut" (s7.toks + 1), .int mm tm].toArray } }) fun b o z => Heap.get?_push_of_some _ z
  have Ko11 := Ko10.up (s' := { s10 with heap := s10.heap.push { cls := .type "tuple", data := .seq [Value.str "cut" (s7.toks + 1), .int mm tm].toArray } }) fun b o z => Heap.get?_push_of_some _ z
  refine store_raw (v := V.ref q) I11 hN hcu lc rfl fun s12 I12 _ keep12 _ => ?_
  have Kt12 : Holds X s12 tx (.str d t2) := keep12 tx _ (neq ht hcu (Ne.symm n6)) Kt11
  have Ko12 : Holds X s12 ox (.str c t) := keep12 ox _ (neq ho hcu (Ne.symm n5)) Ko11
  have scu : (σ'.set ic (some (V.ref q)))[ic]? = some (some (.ref q)) := List.getElem?_set_self (by rw [lσ]; exact bd hcu)
  have sw12 : (σ'.set ic (some (V.ref q)))[iw]? = some (some (.int n)) := by rw [List.getElem?_set_ne n4]; exact sw
  -- return [..][way]
  obtain ⟨mt1, mt2⟩ := tk.got hcs' e2
  obtain ⟨mu1, mu2⟩ := tk.got hd e3
  have t0 : t ≠ 0 := Nat.ne_of_gt (Nat.lt_of_lt_of_le hm mt1)
  have u0 : t2 ≠ 0 := Nat.ne_of_gt (Nat.lt_of_lt_of_le hm mu1)
  have tu : t = t2 → c = d := fun z => by subst z; exact tk.inj e2 e3
  have spl : ∀ {p : Addr}, (upd H4 q (.tup [V.str "cut", .int mm])) p = none → p ≠ q ∧ H4 p = none := fun {p} z => by
    have ne : p ≠ q := by rintro rfl; rw [upd_same] at z; cases z
    exact ⟨ne, by rw [upd_ne ne] at z; exact z⟩
  refine wpAny_execs_cons (wpAny_Return_some (six_ret hw hcu lw lc I12 Ko12 Kt12 sw12 scu hn0 hn6 e0 dw dO dt dc hs1 hs2 hs3 hs4 hs6 pix ?_ ?_ ?_ ?_ ?_))
  · exact fun e s' J => ⟨.ref q, _, _, J, rfl, f5 e⟩
  · intro e p s' hp J
    obtain ⟨ne, hp'⟩ := spl hp
    exact ⟨.ref p, _, _, J, rfl, (fp p ne hp').1 e⟩
  · intro e p tk0 s' hp J
    obtain ⟨ne, hp'⟩ := spl hp
    exact ⟨.ref p, _, _, J, rfl, (fp p ne hp').2.1 e _ ⟨0, tk0, t, t2, upd_same, t0, u0, tu⟩ fun b' hb' => upd_ne hb'⟩
  · intro e p s' hp J
    obtain ⟨ne, hp'⟩ := spl hp
    exact ⟨.ref p, _, _, J, rfl, (fp p ne hp').2.2.1 e⟩
  · intro e p tk0 s' hp J
    obtain ⟨ne, hp'⟩ := spl hp
    exact ⟨.ref p, _, _, J, rfl, (fp p ne hp').2.2.2 e _ ⟨0, tk0, t, upd_same, t0, Nat.lt_of_lt_of_le mt2 hkb⟩ fun b' hb' => upd_ne hb'⟩
end Pd

set_option maxHeartbeats 4000000
namespace Pd
open PySem PySem.Spec PyProof.Rows L2
/-! ### defs that tell a number below which no token is to come -/
abbrev SpU := List V → Hp → (Nat → VK) → Prop
def FnU (P : Program) (w : World) (K : PySem.W.Frag) (mg : Str → Option Value) (base : Heap) (k : Nat) (f : Addr) (sp : SpU) : Prop :=
  ∀ (A : Around) (outer : List Env) (s : Shared) (H : Hp) (us : List Value) (vs : List V) (Q : Nat → VK) (E : XK), Room k A → Env0 P w K mg base A outer s H → Vals vs us → sp vs H Q →
    codeAny (model P w) A (.call (.ref f) ⟨us, []⟩) (fun r s' => ∃ b, b ≤ s'.toks ∧ CR CX0 outer P w H s (Q b) E r s') s
theorem CR.mono {outer : List Env} {P : Program} {w : World} {H : Hp} {s s' : Shared} {Q Q' : VK} {E : XK} {r : Result} (h : CR CX0 outer P w H s Q E r s') (k : ∀ v H', Q v H' → Q' v H') : CR CX0 outer P w H s Q' E r s' := by
  cases r with
  | error e => exact h
  | ok fl =>
    cases fl with
    | ret u =>
      obtain ⟨v, H', a, b, c, d, e, q⟩ := (show CE outer P w H s Q u s' from h)
      exact (show CE outer P w H s Q' u s' from ⟨v, H', a, b, c, d, e, k v H' q⟩)
    | next => exact h
    | brk => exact h
    | cont => exact h
theorem FnU.fnR {P : Program} {w : World} {K : PySem.W.Frag} {mg : Str → Option Value} {base : Heap} {k : Nat} {f : Addr} {sp : SpU} (F : FnU P w K mg base k f sp) : FnR P w K mg base CX0 k f (fun vs H Q _ => sp vs H fun _ => Q) :=
  fun A outer s H us vs Q E hr e0 r h => codeAny_mono (F A outer s H us vs (fun _ => Q) E hr e0 r h) fun _ _ ⟨_, _, z⟩ => z
/-- a body that returns -/
structure PSsU (X : Cx) (sts : List Stmt) (t : L2.St → Hp → (Nat → VK) → Prop) : Prop where
  run : ∀ (pins : List (Addr × Obj)) (s : Shared) (σ : L2.St) (H : Hp) (Q : Nat → VK), Inv X pins σ H s → t σ H Q →
    wpAny (model X.prog X.w) X.A (execs sts X.env) (fun f s' => ∃ u, f = .ret u ∧ ∃ v σ' H' b, Inv X pins σ' H' s' ∧ RelV v u ∧ b ≤ s'.toks ∧ Q b v H') X.xe s
theorem fnU_of {P : Program} {w : World} {K : PySem.W.Frag} {mg : Str → Option Value} {base : Heap} {x qual : Str} {st : Stmt} {f : Addr} {fd : FuncData} {N ps : List Str} {k : Nat} {sp : SpU}
    (F : Fun K x qual st f fd) (S : FnScope N ps (defScope st))
    (hb : ∀ (kV doc pm : Value) (an : Option Addr) (cdv ct : Value) (us : List Value), us.length = ps.length → bindArgs (PySem.W.fnOf x qual (defArgs st) (defBody st) (defScope st) .none kV doc pm an cdv ct) ⟨us, []⟩ = pure (ps.zip us))
    (len : ∀ vs H Q, sp vs H Q → vs.length = ps.length)
    (hbody : ∀ (cdv : Value) (A : Around) (outer : List Env) (s : Shared) (H : Hp) (vs : List V) (Q : Nat → VK) (E : XK), Room k (A.deeper (envOfC qual (defScope st) s.heap.objs.size f cdv)) → sp vs H Q →
      ∃ t, PSsU (cxOf CX0 P w K mg base N qual (defScope st) f cdv A outer s H E) (defBody st) t ∧ t (start N vs) H Q) : FnU P w K mg base (k + 1) f sp := by
  obtain ⟨oc, od, kV, doc, pm, an, cdv, ct, osl, rfl, lk, hcd⟩ := F.ex
  intro A outer s H us vs Q E hr e0 r hsp
  have hl : us.length = ps.length := r.length.symm.trans (len _ _ _ hsp)
  have KX : K.In s.heap := e0.mod.kin.keeps fun b o e => (e0.bs b o e).1
  have lim : s.heap.NoLimit := e0.mod.nolimit.keeps fun b o e => (e0.bs b o e).1
  have hkind : ∀ y ∈ ps.zip us, (defScope st).names.lookup y.1 = some .local ∨ ((defScope st).names.lookup y.1 = some .cell ∧ ((cellsFrom (s.heap.objs.size + 1) (defScope st).names []).lookup y.1).isSome = true) := fun y hy => by
    rcases S.par y.1 (List.of_mem_zip hy).1 with q | q
    · exact .inl q
    · exact .inr ⟨q, PySem.W.cellsFrom_some _ _ _ (.inl q)⟩
  refine codeAny_call_function hr.depth (KX _ _ lk) rfl S.co S.gen rfl (PySem.W.codeRec_of KX hcd) (BindsTo.of_eq (hb kV doc pm an cdv ct us hl) _ _ _ _ ?_)
  refine wpAny_mono (wpAny_newFunctionEnv_cells S.kind hkind fun env he s1 x => (⟨he, x⟩ : env = _ ∧ InCallC s _ _ _ _ s1)) ?_ fun _ _ z => z
  rintro env s1 ⟨rfl, x⟩
  refine ⟨lim.keeps x.toInCall.keep, codeAny_func ?_⟩
  obtain ⟨t, he, hq⟩ := hbody cdv A outer s H vs Q E (hr.deeper _) hsp
  have I : Inv (cxOf CX0 P w K mg base N qual (defScope st) f cdv A outer s H E) [] (start N vs) H s1 := inv_start S hr.hd e0 (len _ _ _ hsp) r x
  refine wpAny_mono (he.run [] s1 _ H _ I hq) ?_ ?_
  · rintro fl s' ⟨u, rfl, v, σ', H', b, J, rv, lb, q⟩
    exact ⟨b, lb, (show CE outer P w H s (Q b) u s' from ⟨v, H', J.os, J.bare, J.base, J.hok, rv, q⟩)⟩
  · intro e s' h
    exact wpAny_mono h (fun _ _ h => ⟨0, Nat.zero_le _, h⟩) fun _ _ h => ⟨0, Nat.zero_le _, h⟩
/-- x = f(..), f tells a number: what follows may count on it -/
def tMark (i : Nat) (sp : SpU) (ta : TA) (u : Nat → TS) : TS := fun D σ H => ta σ H fun vs H1 => sp vs H1 fun b v H2 => u b D (σ.set i (some v)) H2
theorem pss_mark {X : Cx} {i k : Nat} {x y : Str} {f : Addr} {sp : SpU} {e : Expr} {es : List Expr} {ta : TA} {u : Nat → TS} {rest : List Stmt} {p p2 pos p3 : Pos} (hN : X.N.Nodup) (hi : X.N[i]? = some x) (hx : Loc X.env.scope x)
    (F : FnU X.prog X.w X.K X.mg X.base k f sp) (hr : Room k X.A) (hg : Gl X y) (hm : X.mg y = some (.ref f)) (hk : PySem.W.keepIn X.K (.ref f) = true) (ha : PA X (e :: es) ta) (hrest : ∀ b, PSsn b X rest (u b))
    (hs : swapsWith (.Call (.Name y p) (e :: es) [] pos) (some (.Name x p2)) p3.line X.env = pure false := by rfl) (hf : X.fn x = true ∨ X.env.scope.names.lookup x = some .local := by first | exact .inl rfl | exact .inr rfl | assumption)
    (hdb : (y == ("__debug__" : Str)) = false := by decide) (he : starEach (e :: es) X.env = (false, eval e X.env) :: starEach es X.env := by rfl) (hpl : (backTo pos (starEach es X.env)).any (·.1) = false := by rfl) :
    PSs X (.Assign [.Name x p2] (.Call (.Name y p) (e :: es) [] pos) p3 :: rest) (tMark i sp ta u) := by
  constructor
  intro pins s σ H D I h
  refine wpAny_execs_cons (wpAny_Assign_Name (wpAny_Call_Name_kw (ld_glob I hg hm ?_ hdb)) hs)
  refine PySem.W.callWith_K (h₀ := X.base) I.ok.mod.kin hk (thn (ha.run pos pins s σ H _ I h) ?_) he hpl
  rintro us s1 ⟨vs, H1, I1, r, q⟩
  refine ⟨I1.kIn, wpAny_call (codeAny_mono (F X.A X.stack s1 H1 us vs _ (fun _ _ _ => False) hr I1.env0 r q) fun r s' hq => ?_)⟩
  obtain ⟨b, lb, hq⟩ := hq
  cases r with
  | error e => exact pass0 pins σ H1 s1 e s' I1 hq
  | ok fl =>
    cases fl with
    | ret w =>
      obtain ⟨v, H', J, rv, q'⟩ := I1.after hq
      refine thk lb (store_ok (Q := fun _ s2 => Inv X pins (σ.set i (some v)) H' s2) J hN hi hx rv (fun s2 I2 => I2) hf) ?_
      exact fun _ s2 l2 I2 => (hrest b).run pins s2 _ H' D l2 I2 q'
    | next => exact False.elim hq
    | brk => exact False.elim hq
    | cont => exact False.elim hq
/-! ### letter = ..; return [letter, letter.upper(), .., .., ..] -/
def tFew (z : Str) (il : Nat) (tb t1 t2 t3 : TE) : L2.St → Hp → (Nat → VK) → Prop := fun σ H Q => tItemC z tb σ H fun v1 H1 => ∃ x1 : Str, v1 = .str x1 ∧ x1.length ≤ 1000 ∧
  t1 (σ.set il (some (.str x1))) H1 fun y1 H2 => ∃ c1 : Str, y1 = .str c1 ∧ t2 (σ.set il (some (.str x1))) H2 fun y2 H3 => ∃ c2 : Str, y2 = .str c2 ∧ t3 (σ.set il (some (.str x1))) H3 fun y3 H4 => ∃ c3 : Str, y3 = .str c3 ∧
    ∀ b p H5, H4 p = none → TxtsB b H5 p [x1, Txt.upper x1, c1, c2, c3] → (∀ b', b' ≠ p → H5 b' = H4 b') → Q b (.ref p) H5
theorem pss_few {X : Cx} {z : Str} {il : Nat} {lx : Str} {b1 e1 e2 e3 : Expr} {tb t1 t2 t3 : TE} {j1 : Nat} {a1 c1 d1 p1 q1 q2 q3 q4 d3 p3 : Pos} (hN : X.N.Nodup) (hl : X.N[il]? = some lx)
    (ll : X.env.scope.names.lookup lx = some .local) (h0 : PE X b1 tb) (s1 : PlainIxT b1) (h1 : PEF X e1 t1) (h2 : PEF X e2 t2) (h3 : PEF X e3 t3) (dl : (lx == ("__debug__" : Str)) = false)
    (hs1 : swapsWith (.Subscript (.Constant (.str z) j1 c1) b1 d1) (some (.Name lx a1)) p1.line X.env = pure false)
    (hst : starEach [.Name lx q1, .Call (.Attribute (.Name lx q2) "upper" q3) [] [] q4, e1, e2, e3] X.env =
      [(false, eval (.Name lx q1) X.env), (false, eval (.Call (.Attribute (.Name lx q2) "upper" q3) [] [] q4) X.env), (false, eval e1 X.env), (false, eval e2 X.env), (false, eval e3 X.env)])
    (hbase : attributeBase (.Name lx q2) "upper" X.env (eval (.Name lx q2) X.env) = eval (.Name lx q2) X.env) (hline : (q3.endLine == q4.line) = true) :
    PSsU X [.Assign [.Name lx a1] (.Subscript (.Constant (.str z) j1 c1) b1 d1) p1,
      .Return (some (.List [.Name lx q1, .Call (.Attribute (.Name lx q2) "upper" q3) [] [] q4, e1, e2, e3] d3)) p3] (tFew z il tb t1 t2 t3) := by
  constructor
  intro pins s σ H Q I h
  refine wpAny_execs_cons (wpAny_Assign_Name (thn ((pef_item h0 s1).run pins s σ H _ I h) ?_) hs1)
  rintro u1 t1' ⟨⟨v1, H1, I1, r1, x1, rfl, hx1, h'⟩, l1, y1, k1, rfl, k1a, k1b⟩
  obtain rfl : y1 = x1 := by obtain ⟨_, e⟩ := r1; injection e
  refine store_raw (v := V.str y1) I1 hN hl ll r1 fun t2' I2 K2 _ l2 => ?_
  refine wpAny_execs_cons (wpAny_Return_some (wpAny_List_spliced ?_))
  rw [hst]
  show wpAny _ _ (spliced ((false, eval (.Name lx q1) X.env) :: (false, eval (.Call (.Attribute (.Name lx q2) "upper" q3) [] [] q4) X.env) :: (false, eval e1 X.env) :: (false, eval e2 X.env) :: [(false, eval e3 X.env)])) _ _ _
  refine Calls.spliced_cons (K2.load I2 (Calls.spliced_cons ?_) dl)
  refine PySem.Call_method0 hbase hline (K2.load I2 ?_ dl)
  refine ⟨"str", _, F.plainAttrs_str, F.slot_str_upper, F.type_str_upper, typeIs_str _ _ _, (fun _ e => nomatch e), Calls.callWith_builtin rfl (PySem.evalArgs_none ?_)⟩
  have fit : Builtin.Str.tooLong (Txt.upper y1).length = false := PyProof.Rows.short24 (by have := PyProof.Rows.len_upper y1; omega)
  refine PySem.SC.upper fit (Calls.spliced_cons ?_)
  refine thn (h1.run pins _ _ H1 _ (I2.tok _) h') ?_
  rintro u3 t3' ⟨⟨w1, H2, I3, r3, c1', rfl, g2⟩, m1, z1, n1, rfl, n1a, n1b⟩
  obtain rfl : z1 = c1' := by obtain ⟨_, e⟩ := r3; injection e
  refine Calls.spliced_cons (thn (h2.run pins _ _ H2 _ I3 g2) ?_)
  rintro u4 t4' ⟨⟨w2, H3, I4, r4, c2', rfl, g3⟩, m2, z2, n2, rfl, n2a, n2b⟩
  obtain rfl : z2 = c2' := by obtain ⟨_, e⟩ := r4; injection e
  refine Calls.spliced_cons (thn (h3.run pins _ _ H3 _ I4 g3) ?_)
  rintro u5 t5' ⟨⟨w3, H4, I5, r5, c3', rfl, fin⟩, m3, z3, n3, rfl, n3a, n3b⟩
  obtain rfl : z3 = c3' := by obtain ⟨_, e⟩ := r5; injection e
  refine Calls.spliced_nil ⟨by show 5 ≤ sizeLine; decide, ?_⟩
  have tk : TkL (s.toks + 1) t5'.toks [y1, Txt.upper y1, z1, z2, z3] [.str y1 k1, .str (Txt.upper y1) t2'.toks, .str z1 n1, .str z2 n2, .str z3 n3] := by
    refine .cons (k := t2'.toks) k1a (Nat.lt_of_lt_of_le k1b l2) (.cons (k := t2'.toks + 1) (Nat.le_refl _) (Nat.lt_succ_self _) (.cons (k := t3'.toks) ?_ n1b (.cons (k := t4'.toks) ?_ n2b (.cons (k := t5'.toks) ?_ n3b (.nil (Nat.le_refl _))))))
    · exact Nat.le_of_succ_le n1a
    · exact Nat.le_of_succ_le n2a
    · exact Nat.le_of_succ_le n3a
  have new : H4 t5'.heap.objs.size = none := I5.hok.fresh (Nat.le_refl _)
  refine ⟨_, rfl, .ref t5'.heap.objs.size, σ.set il (some (V.str y1)), upd H4 t5'.heap.objs.size (.frz { cls := .type "list", data := .seq [Value.str y1 k1, .str (Txt.upper y1) t2'.toks, .str z1 n1, .str z2 n2, .str z3 n3].toArray } (.lst ([y1, Txt.upper y1, z1, z2, z3].map .str))), t5'.toks, ?_, rfl, Nat.le_refl _, ?_⟩
  · exact I5.laid (t' := t5'.toks) (fun b o q => Heap.get?_push_of_some _ q) (Nat.le_refl _) ⟨Heap.get?_push_size _ rfl, by show 5 ≤ sizeLine; decide, _, 0, tk.vals, Heap.get?_push_size _ rfl⟩
  · exact fin _ _ _ new ⟨_, 0, _, _, upd_same, tk, by omega, Nat.le_refl _⟩ fun b hb => upd_ne hb
end Pd

set_option maxHeartbeats 4000000
namespace Pd
open PySem PySem.Spec PyProof.Rows L2
/-! ### discard, of a set whose keys are a list -/
theorem perm_of_len {α : Type} [DecidableEq α] : ∀ {L ks : List α}, L.Nodup → (∀ k ∈ L, k ∈ ks) → ks.length ≤ L.length → ks.Perm L
  | [], ks, _, _, l => by
    rw [List.eq_nil_of_length_eq_zero (Nat.le_zero.mp l)]
  | a :: L, ks, nd, sub, l => by
    have ha := sub a (List.mem_cons_self ..)
    have p := List.perm_cons_erase ha
    obtain ⟨n1, n2⟩ := List.nodup_cons.mp nd
    have q : (ks.erase a).Perm L := perm_of_len n2 (fun k hk => (List.mem_erase_of_ne (by rintro rfl; exact n1 hk)).mpr (sub k (List.mem_cons_of_mem _ hk))) (by
      have := p.length_eq
      simp only [List.length_cons] at this l
      omega)
    exact p.trans (q.cons a)
theorem perm_at {α : Type} : ∀ {ks : List α} {i : Nat} {k : α}, ks[i]? = some k → (k :: ks.eraseIdx i).Perm ks
  | [], _, _, e => by simp at e
  | a :: ks, 0, k, e => by
    simp at e; subst e
    simp
  | a :: ks, i + 1, k, e => by
    have z := perm_at (ks := ks) (i := i) (k := k) (by simpa using e)
    rw [List.eraseIdx_cons_succ]
    exact (List.Perm.swap a k _).trans (z.cons a)
/-- membership, and a list without a key, or with one -/
def hasK {T : Type} [DecidableEq T] (L : List T) : T → Bool := fun j => decide (j ∈ L)
def offK {T : Type} [DecidableEq T] (L : List T) (k : T) : List T := L.erase k
def addK {T : Type} [DecidableEq T] (L : List T) (k : T) : List T := if k ∈ L then L else L ++ [k]
section
variable {T : Type} [DecidableEq T] {L : List T} {j k : T}
theorem offK_nodup (h : L.Nodup) : (offK L k).Nodup := h.erase k
theorem hasK_off (h : L.Nodup) : hasK (offK L k) j = (decide (j ≠ k) && hasK L j) := by
  unfold hasK offK
  rw [← Bool.decide_and]
  exact decide_eq_decide.mpr h.mem_erase_iff
theorem offK_len : (offK L k).length ≤ L.length := List.length_erase_le
theorem addK_nodup (h : L.Nodup) : (addK L k).Nodup := by
  unfold addK
  split
  · exact h
  · rename_i hk
    rw [List.nodup_append]
    refine ⟨h, by simp, fun x hx y hy => ?_⟩
    rw [List.mem_singleton.mp hy]
    rintro rfl
    exact hk hx
theorem hasK_add : hasK (addK L k) j = (hasK L j || decide (j = k)) := by
  unfold hasK addK
  split
  · rename_i hk
    by_cases e : j = k
    · subst e; simp [hk]
    · simp [e]
  · rw [← Bool.decide_or]
    exact decide_eq_decide.mpr (by rw [List.mem_append, List.mem_singleton])
theorem addK_len : (addK L k).length ≤ L.length + 1 := by
  unfold addK
  split
  · omega
  · simp
theorem addK_len' : (addK L k).length = if hasK L k = true then L.length else L.length + 1 := by
  unfold addK hasK
  by_cases hk : k ∈ L
  · rw [if_pos hk, if_pos (decide_eq_true hk)]
  · rw [if_neg hk, if_neg (by rw [decide_eq_false hk]; decide)]
    simp
end
section
variable {prog : Program} {w : World} {T : Type} [DecidableEq T] {knd : KeyKind prog w T}
/-- the keys of entries, one behind the other -/
inductive KsOf (knd : KeyKind prog w T) : List T → List (Int × Value) → Prop where
  | nil : KsOf knd [] []
  | cons {k : T} {e : Int × Value} {ks : List T} {l : List (Int × Value)} (h : knd.is k e.2 = true) (r : KsOf knd ks l) : KsOf knd (k :: ks) (e :: l)
theorem KsOf.of : ∀ {l : List (Int × Value)}, ElemsOf knd l → ∃ ks, KsOf knd ks l
  | [], _ => ⟨[], .nil⟩
  | e :: l, h => by
    obtain ⟨⟨k, hk, _⟩, _⟩ := h.head
    obtain ⟨ks, r⟩ := KsOf.of h.tail
    exact ⟨k :: ks, .cons hk r⟩
theorem KsOf.len : ∀ {ks : List T} {l : List (Int × Value)}, KsOf knd ks l → ks.length = l.length
  | _, _, .nil => rfl
  | _, _, .cons _ r => congrArg (· + 1) r.len
theorem KsOf.mem {k : T} : ∀ {ks : List T} {l : List (Int × Value)}, KsOf knd ks l → (k ∈ ks ↔ ∃ e ∈ l, knd.is k e.2 = true)
  | _, _, .nil => by simp
  | _, _, .cons (k := k0) (e := e) h r => by
    rw [List.mem_cons, r.mem]
    constructor
    · rintro (rfl | ⟨x, hx, hp⟩)
      · exact ⟨e, List.mem_cons_self .., h⟩
      · exact ⟨x, List.mem_cons_of_mem _ hx, hp⟩
    · rintro ⟨x, hx, hp⟩
      rcases List.mem_cons.mp hx with rfl | hx
      · exact .inl (knd.inj _ _ _ hp h)
      · exact .inr ⟨x, hx, hp⟩
theorem KsOf.erase : ∀ {ks : List T} {l : List (Int × Value)} (i : Nat), KsOf knd ks l → KsOf knd (ks.eraseIdx i) (l.eraseIdx i)
  | _, _, _, .nil => by simpa using KsOf.nil
  | _, _, 0, .cons h r => by simpa using r
  | _, _, i + 1, .cons h r => by simpa using KsOf.cons h (r.erase i)
theorem KsOf.at_ {k : T} : ∀ {ks : List T} {l : List (Int × Value)} {i : Nat} (hi : i < l.length), KsOf knd ks l → knd.is k (l[i]).2 = true → ks[i]? = some k
  | _, _, _, hi, .nil, _ => absurd hi (Nat.not_lt_zero _)
  | _, _, 0, hi, .cons h r, e => by
    have := knd.inj _ _ _ e h
    subst this; rfl
  | _, _, i + 1, hi, .cons h r, e => by
    simpa using r.at_ (i := i) (by simpa using hi) (by simpa using e)
theorem erase_list {α : Type} (xs : Array α) (i : Nat) : (SetTable.eraseAt xs i).toList = xs.toList.eraseIdx i := by
  unfold SetTable.eraseAt
  rw [Array.toList_append, Array.toList_extract, Array.toList_extract, List.eraseIdx_eq_take_drop_succ]
  simp [List.extract_eq_drop_take]
  rw [List.take_of_length_le (by simp)]
theorem ins_size {α : Type} (xs : Array α) (p : Nat) (x : α) : (SetTable.insertAt xs p x).size = xs.size + 1 := by
  unfold SetTable.insertAt
  simp only [Array.size_append, Array.size_push, Array.size_extract]
  omega
theorem ers_size {α : Type} (xs : Array α) (i : Nat) (hi : i < xs.size) : (SetTable.eraseAt xs i).size = xs.size - 1 := by
  rw [← Array.length_toList, erase_list, List.length_eraseIdx_of_lt (by simpa using hi), Array.length_toList]
theorem drop_fits {t : SetTable} {n i : Nat} (h : t.fits n = true) (hi : i < n) : (t.drop i).fits (n - 1) = true := by
  simp only [SetTable.fits, Bool.and_eq_true, beq_iff_eq, decide_eq_true_eq] at h ⊢
  obtain ⟨h1, h2⟩ := h
  have hp : i < t.place.size := by omega
  unfold SetTable.fill at h2
  unfold SetTable.drop SetTable.fill
  rw [Array.getElem?_eq_getElem hp]
  dsimp only
  rw [ers_size _ _ hp, ins_size]
  omega
variable {A : Around} {E : Value → Shared → Prop} {s : Shared} {a : Addr} {k : T} {key : Value}
theorem call_set_discard {L : List T} {Q : Value → Shared → Prop} (hkey : knd.is k key = true) (hsc : key.scannable = true) (hS : s.heap.SetOf knd a (hasK L) L.length) (nd : L.Nodup)
    (h : ∀ h', Heap.SameBut a s.heap h' → h'.SetOf knd a (hasK (offK L k)) (offK L k).length → Q .none { s with heap := h', toks := s.toks + 1 }) :
    wpAny (model prog w) A (call (.builtin "set.discard") [.ref a, key]) Q E s := by
  obtain ⟨o, es, ep, t, ho, hex, hd, hel, hmem, hb, hf, hn⟩ := id hS
  refine wpAny_call_entry F.slot_set_discard hS.typeIs F.entry_set_discard ?_ (F.args_set_discard_2 _ _)
  unfold Builtin.«set.discard» Builtin.Frozenset.oneOther
  simp only [List.isEmpty_nil, bind_assoc]
  unfold Builtin.Frozenset.addrOf Builtin.Frozenset.withSetAsKey setDiscard
  refine wpAny_bind (wpAny_pure ?_)
  try dsimp only
  refine wpAny_bind (wpAny_pure ?_)
  try dsimp only
  refine wpAny_bind (wpAny_tryCatch (wpAny_holding (wpAny_bind (knd.pyHash hkey ?_))))
  unfold setDiscardHashed setFind setFindIn
  refine wpAny_bind (wpAny_bind (wpAny_setState_of ho hd hf ?_))
  dsimp only
  rw [byScan_of hsc hb hel]
  simp only [↓reduceIte]
  refine wpAny_bind (wpAny_rule (wpAny_bind (wpAny_setScan_of hkey ho hd hf hel ?_)))
  obtain ⟨ks, K1⟩ := KsOf.of hel
  have P1 : ks.Perm L := perm_of_len nd (fun j hj => K1.mem.mpr ((hmem j).mp (decide_eq_true hj))) (by rw [K1.len, Array.length_toList, hn]; exact Nat.le_refl _)
  cases hr : List.findIdx? (fun e => knd.is k e.2) es.toList with
  | none =>
    dsimp only
    refine wpAny_pure (wpAny_pure ?_)
    have nk : k ∉ L := fun hk => by
      obtain ⟨e, he, hp⟩ := (hmem k).mp (decide_eq_true hk)
      have := List.findIdx?_eq_none_iff.mp hr e he
      rw [hp] at this; cases this
    have z := h s.heap (Heap.SameBut.refl a s.heap) (by unfold offK; rw [List.erase_of_not_mem nk]; exact hS)
    show wpAny _ _ (ret Value.none) _ _ _
    exact wpAny_pure ⟨_, rfl, z⟩
  | some i =>
    dsimp only
    obtain ⟨hi, hpi, _⟩ := List.findIdx?_eq_some_iff_getElem.mp hr
    have hi' : i < es.size := by simpa using hi
    refine wpAny_pure ?_
    dsimp only
    rw [Nat.zero_add]
    refine wpAny_bind (wpAny_setState_of ho hd hf ?_)
    dsimp only
    have ek := K1.at_ hi hpi
    obtain ⟨hik, ei⟩ := List.getElem?_eq_some_iff.mp ek
    have P2 : (ks.eraseIdx i).Perm (L.erase k) := by
      have p1 := perm_at ek
      have p2 := List.perm_cons_erase (P1.mem_iff.mp (ei ▸ List.getElem_mem hik))
      exact ((p1.trans P1).trans p2).cons_inv
    have K2 := K1.erase i
    have el := erase_list es i
    have sz : (SetTable.eraseAt es i).size = es.size - 1 := ers_size es i hi'
    have hel2 : ElemsOf knd (SetTable.eraseAt es i).toList := by
      rw [el]
      exact fun e he => hel e (List.mem_of_mem_eraseIdx he)
    have hm2 : ∀ j, decide (j ∈ L.erase k) = true ↔ ∃ e ∈ (SetTable.eraseAt es i).toList, knd.is j e.2 = true := fun j => by
      rw [decide_eq_true_eq, el, ← K2.mem, P2.mem_iff]
    refine wpAny_bind (wpAny_storeSet_of ho hd ?_ (fits_of_scanBound (Nat.lt_of_le_of_lt (by rw [sz]; omega) hb)))
    obtain ⟨ho1, hS1⟩ := SetOf_store (knd := knd) (t' := t.drop i) ho hex hd hel2 hm2 (by rw [sz]; omega) (by rw [sz]; exact drop_fits hf hi')
    refine wpAny_bind (wpAny_point (wpAny_pure ?_))
    have e2 : (SetTable.eraseAt es i).size = (L.erase k).length := by
      rw [← P2.length_eq, K2.len, ← el, Array.length_toList]
    rw [e2] at hS1
    show wpAny _ _ (ret Value.none) _ _ _
    exact wpAny_pure ⟨_, rfl, h _ (Heap.SameBut.update s.heap a _) hS1⟩
end
/-- a set of the keys of a list -/
def SetL (P : Program) (w : World) (a : Addr) (L : List Key) : HO := SetK P w a (hasK L) L.length
def rDiscL (P : Program) (w : World) : V → List V → Hp → VK → Prop := fun x xs H Q => ∃ (a : Addr) (k : Key) (L : List Key), x = V.ref a ∧ xs = [kV k] ∧ H a = some (SetL P w a L) ∧ L.Nodup ∧
  Q .non (upd H a (SetL P w a (offK L k)))
section
variable {X : Cx}
theorem mt_sdiscL : MtR X "set.discard" (rDiscL X.prog X.w) := by
  intro pins s σ H x xs v us Q I rx rxs h
  obtain ⟨a, k, L, rfl, rfl, ha, nd, q⟩ := h
  cases rx
  cases rxs with
  | cons ry rt =>
    cases rt
    refine call_set_discard (L := L) (kV_is ry) (key_scan ry) (setK_get I ha) nd fun h' sb new => ?_
    have he : ∃ u, h'.get? a = some u := by
      have ⟨o, _, _, _, ho, _⟩ := new
      exact ⟨o, ho⟩
    exact ⟨.non, upd H a (SetL X.prog X.w a (offK L k)), I.write (e := a) (t' := s.toks + 1) (by rw [ha]; trivial) (.inl rfl) (fun b u hb hu => (sb.2 b hb).trans hu) he (setK_new new), rfl, q⟩
end
end Pd

set_option maxHeartbeats 4000000
namespace Pd
open PySem PySem.Spec PyProof.Rows L2
theorem hasK_nil : (hasK ([] : List Key)) = fun _ => false := by
  funext j
  simp [hasK]
/-- set() -/
def rNewL (P : Program) (w : World) : List V → Hp → VK → Prop := fun xs H Q => xs = [] ∧ ∀ p, H p = none → Q (.ref p) (upd H p (SetL P w p []))
/-- k in found -/
def rInL (P : Program) (w : World) : R2 := fun x y H Q => ∃ (k : Key) (a : Addr) (L : List Key), x = kV k ∧ y = V.ref a ∧ H a = some (SetL P w a L) ∧ Q (.bl (hasK L k)) H
/-- found.add(k) -/
def rAddL (P : Program) (w : World) : V → List V → Hp → VK → Prop := fun x xs H Q => ∃ (a : Addr) (k : Key) (L : List Key), x = V.ref a ∧ xs = [kV k] ∧ H a = some (SetL P w a L) ∧ L.length + 1 < 4096 ∧
  Q .non (upd H a (SetL P w a (addK L k)))
/-- a method of a set of keys, by one value -/
def tSM (P : Program) (w : World) (r : V → List V → Hp → VK → Prop) (to te : TE) : TE := fun σ H Q => to σ H fun x H1 => (∃ a L, x = V.ref a ∧ H1 a = some (SetL P w a L)) ∧ te σ H1 fun y H2 => r x [y] H2 Q
section
variable {X : Cx}
theorem cr_newL : CallR X (.type "set") (rNewL X.prog X.w) := by
  intro pins s σ H xs us Q I r h
  obtain ⟨e, q⟩ := h
  refine cr_set0K pins s σ H xs us Q I r ⟨e, fun p hp => ?_⟩
  have z := q p hp
  unfold SetL at z
  rw [hasK_nil] at z
  exact z
theorem op_inL : OpR X (compareOp .In) (rInL X.prog X.w) := by
  intro pins s σ H x y v u Q I rx ry h
  obtain ⟨k, a, L, ex, ey, ha, q⟩ := h
  exact or_sinK pins s σ H x y v u Q I rx ry ⟨k, a, hasK L, L.length, ex, ey, ha, q⟩
theorem mt_addL : MtR X "set.add" (rAddL X.prog X.w) := by
  intro pins s σ H x xs v us Q I rx rxs h
  obtain ⟨a, k, L, ex, exs, ha, room, q⟩ := h
  refine mt_saddK pins s σ H x xs v us Q I rx rxs ⟨a, k, hasK L, L.length, ex, exs, ha, room, ?_⟩
  unfold SetL at q
  rw [addK_len', show hasK (addK L k) = fun j => hasK L j || decide (j = k) from funext fun j => hasK_add] at q
  exact q
theorem pe_setM {a e : Expr} {ta te : TE} {name : Str} {id : String} {apos pos : Pos} {r : V → List V → Hp → VK → Prop} (slot : Slot "set" name id) (ty : typeOf (.builtin id) = pure (.type "method_descriptor")) (rule : MtR X id r) (ho : PE X a ta) (he : PE X e te)
    (hs : starEach [e] X.env = [(false, eval e X.env)] := by rfl) (hbase : attributeBase a name X.env (eval a X.env) = eval a X.env := by rfl) (hline : (apos.endLine == pos.line) = true := by rfl) :
    PE X (.Call (.Attribute a name apos) [e] [] pos) (tSM X.prog X.w r ta te) := by
  constructor
  intro pins s σ H Q I h
  refine PySem.Call_method1 hbase hs hline (thn (ho.run pins s σ H _ I h) ?_)
  rintro v s1 ⟨x, H1, I1, r1, ⟨b, L, rfl, hb⟩, q1⟩
  obtain rfl : v = Value.ref b := r1
  have hS := setK_get I1 hb
  refine ⟨"set", _, F.plainAttrs_set, slot, ty, hS.typeIs, hS.noDict, Calls.callWith_builtin rfl (Calls.evalArgs_plain (Calls.spliced_cons ?_))⟩
  exact thn (he.run pins s1 σ H1 _ I1 q1) fun w s2 ⟨y, H2, I2, r2, q2⟩ => Calls.spliced_nil (rule pins s2 σ H2 (.ref b) [y] (.ref b) [w] Q I2 rfl (.cons r2 .nil) q2)
end
end Pd

namespace Pd
open PySem PySem.Spec PyProof.Rows L2
/-! ### len(o) and o[i] of an own class -/
section
variable {X : Cx} {CX : CXT} {C g : Addr} {n : Nat} {sp : Sp} {E : XK}
/-- a def run one deeper -/
theorem run_fnR1 {pins : List (Addr × Obj)} {σ : L2.St} {H : Hp} {s : Shared} {f : Addr} {Q : VK} {us : List Value} {vs : List V} (F : FnR X.prog X.w X.K X.mg X.base CX n f sp) (hr : Room (n + 1) X.A) (hx : Passes CX X E) (I : Inv X pins σ H s) (r : Vals vs us) (h : sp vs H Q E) :
    codeAny (model X.prog X.w) X.A.in1 (.call (.ref f) ⟨us, []⟩) (fun r s' => match r with | .ok (.ret v) => EP X pins σ Q v s' | .ok _ => False | .error e => X.xe e s') s := by
  refine codeAny_mono (F X.A.in1 X.stack s H us vs Q E hr.in1 I.env0.in1 r h) fun r s' hq => ?_
  cases r with
  | error e => exact hx pins σ H s e s' I hq
  | ok fl =>
    cases fl with
    | ret u => exact I.after hq
    | next => exact False.elim hq
    | brk => exact False.elim hq
    | cont => exact False.elim hq
/-- the reading of len(o) -/
def rLenOwn (C : Addr) (sp : Sp) (E : XK) : List V → Hp → VK → Prop := fun xs H Q => ∃ a dx fs, xs = [.ref a] ∧ H a = some (.ins C dx fs) ∧ sp [.ref a] H (fun z H' => ∃ k : Nat, z = .int k ∧ k < 2 ^ 60 ∧ Q (.int k) H') E
theorem call_lenOwn (hs : PySem.W.findIn X.K (.ref C) "__len__" = some (some (.ref g))) (hf : PySem.W.isFn X.K (.ref g) = true) (F : FnR X.prog X.w X.K X.mg X.base CX n g sp) (hr : Room (n + 1) X.A) (hx : Passes CX X E) :
    CallR X (.builtin "len") (rLenOwn C sp E) := by
  intro pins s σ H xs us Q I r h
  obtain ⟨a, dx, fs, rfl, ha, q⟩ := h
  cases r with
  | cons rx rr =>
    cases rr
    cases rx
    obtain ⟨mA, J, _⟩ := ins_get I.hok ha
    obtain ⟨od, J, _⟩ := J.look
    obtain ⟨m, hF⟩ := I.fr
    refine PySem.W.len_K hF I.ok.mod.kin J hs hf ?_
    refine wpAny_mono (wpAny_call (run_fnR1 (us := [.ref a]) (vs := [.ref a]) F hr hx I (.cons rfl .nil) q)) (fun w s' z => ?_) fun _ _ x => x
    obtain ⟨z', H', I', rz, k, rfl, hk, qz⟩ := z
    obtain ⟨t, e⟩ : ∃ t, w = Value.int (k : Nat) t := rz
    subst e
    exact ⟨⟨by omega, by omega⟩, .int k, H', I'.tok _, ⟨_, rfl⟩, qz⟩
/-- the reading of o[i] -/
def rIxOwn (C : Addr) (sp : Sp) (E : XK) : R2 := fun x y H Q => ∃ a dx fs, x = .ref a ∧ H a = some (.ins C dx fs) ∧ sp [.ref a, y] H Q E
theorem pe_ixOwn (hs : PySem.W.findIn X.K (.ref C) "__getitem__" = some (some (.ref g))) (hf : PySem.W.isFn X.K (.ref g) = true) (hfi : PySem.W.fnIn X.K g = true) (F : FnR X.prog X.w X.K X.mg X.base CX n g sp) (hr : Room (n + 1) X.A) (hx : Passes CX X E) {a b : Expr} {ta tb : TE} {pos : Pos} (ha : PE X a ta) (hb : PE X b tb)
    (hsl : ∀ o i, subscripted b true o i = runValue (.builtin "lifetime.subscript" ⟨[o, i], []⟩) := by intro o i; with_unfolding_all rfl) : PE X (.Subscript a b pos) (tOp (rIxOwn C sp E) ta tb) := by
  refine ⟨fun pins s σ H Q I h => ?_⟩
  refine Subscript_ (binT ha hb I h fun v u s x y H I rx ry h => ?_)
  obtain ⟨a, dx, fs, rfl, ha, q⟩ := h
  cases (show v = Value.ref a from rx)
  obtain ⟨mA, J, _⟩ := ins_get I.hok ha
  obtain ⟨od, J, _⟩ := J.look
  obtain ⟨m, hF⟩ := I.fr
  refine PySem.W.sub_K hF I.ok.mod.kin J hs hfi hf ?_ (hsl _ _)
  exact wpAny_call (run_fnR1 (us := [.ref a, u]) (vs := [.ref a, y]) F hr hx I (.cons rfl (.cons ry .nil)) q)
end
end Pd

namespace Pd
open PySem L2
def top (i : Nat) : Stmt := PySem.Challenge.pw_plaindoors_k22_deeds_refused.main.body.getD i (.Pass ⟨0, 0, 0, 0⟩)
abbrev sIsCharacter : Stmt := top 3
abbrev sIsText : Stmt := top 4
abbrev sIsInteger : Stmt := top 8
abbrev sIsStep : Stmt := top 9
abbrev sIsChoice : Stmt := top 10
abbrev sMadeBySteps : Stmt := top 11
abbrev sMadeByStep : Stmt := top 12
abbrev sOnce : Stmt := top 13
abbrev sNostepInit : Stmt := inClass (top 19) 0
abbrev sNodeedInit : Stmt := inClass (top 20) 0
abbrev sNoformInit : Stmt := inClass (top 21) 0
abbrev sNopartInit : Stmt := inClass (top 22) 0
abbrev sNolineInit : Stmt := inClass (top 23) 0
abbrev sDoorsInit : Stmt := inClass (top 26) 0
abbrev sDoorsEq : Stmt := inClass (top 26) 1
abbrev sDoorsPut : Stmt := inClass (top 26) 2
abbrev sDoorsFind : Stmt := inClass (top 26) 3
abbrev sDoorsStrike : Stmt := inClass (top 26) 4
abbrev sDoorsWish : Stmt := inClass (top 26) 5
abbrev sDoorsFolded : Stmt := inClass (top 26) 6
abbrev sAnswers : Stmt := top 27
abbrev sWished : Stmt := top 28
abbrev sFoldingsOf : Stmt := top 29
abbrev sAreNames : Stmt := top 30
abbrev sIsName : Stmt := top 31
abbrev sCheckDeeds : Stmt := top 32
abbrev sIsDeed : Stmt := top 33
abbrev sFoldingInit : Stmt := inClass (top 36) 0
abbrev sFoldingCall : Stmt := inClass (top 36) 1
abbrev sFoldingGetitem : Stmt := inClass (top 36) 2
abbrev sFoldingIter : Stmt := inClass (top 36) 3
abbrev sFoldingLen : Stmt := inClass (top 36) 4
abbrev sFoldingEq : Stmt := inClass (top 36) 5
abbrev sFoldingAdd : Stmt := inClass (top 36) 6
abbrev sFoldingContains : Stmt := inClass (top 36) 7
abbrev sFoldingSteps : Stmt := inClass (top 36) 8
abbrev sFoldingWithout : Stmt := inClass (top 36) 9
abbrev sLawWell : Stmt := top 38
abbrev sLawDraw : Stmt := top 39
abbrev sLawSign : Stmt := top 40
abbrev sLawFew : Stmt := top 41
abbrev sLawStep : Stmt := top 42
abbrev sLawSteps : Stmt := top 43
abbrev sLawNear : Stmt := top 44
abbrev sLawFour : Stmt := top 45
abbrev sLawText : Stmt := top 46
abbrev sLawMade : Stmt := top 47
abbrev sLawFold : Stmt := top 48
abbrev sLawDeeds : Stmt := top 49
abbrev sLawWalk : Stmt := top 50
abbrev sLawTruths : Stmt := top 51
abbrev sLawDoors : Stmt := top 52
abbrev sLawNoText : Stmt := top 53
abbrev sLawNoDeed : Stmt := top 54
abbrev sLawRefused : Stmt := top 55
abbrev sLaw : Stmt := top 56
theorem scIsCharacter : FnScope ["value"] ["value"] (defScope sIsCharacter) := ⟨rfl, rfl, rfl, by decide +kernel, rfl, by decide +kernel, by decide +kernel⟩
theorem scIsText : FnScope ["value", "character"] ["value"] (defScope sIsText) := ⟨rfl, rfl, rfl, by decide +kernel, rfl, by decide +kernel, by decide +kernel⟩
theorem scIsInteger : FnScope ["value"] ["value"] (defScope sIsInteger) := ⟨rfl, rfl, rfl, by decide +kernel, rfl, by decide +kernel, by decide +kernel⟩
theorem scIsStep : FnScope ["value", "name"] ["value"] (defScope sIsStep) := ⟨rfl, rfl, rfl, by decide +kernel, rfl, by decide +kernel, by decide +kernel⟩
theorem scIsChoice : FnScope ["value", "character"] ["value"] (defScope sIsChoice) := ⟨rfl, rfl, rfl, by decide +kernel, rfl, by decide +kernel, by decide +kernel⟩
theorem scMadeBySteps : FnScope ["steps", "text", "step"] ["steps", "text"] (defScope sMadeBySteps) := ⟨rfl, rfl, rfl, by decide +kernel, rfl, by decide +kernel, by decide +kernel⟩
theorem scMadeByStep : FnScope ["step", "text", "name", "character"] ["step", "text"] (defScope sMadeByStep) := ⟨rfl, rfl, rfl, by decide +kernel, rfl, by decide +kernel, by decide +kernel⟩
theorem scOnce : FnScope ["text", "single", "kept", "at"] ["text", "single"] (defScope sOnce) := ⟨rfl, rfl, rfl, by decide +kernel, rfl, by decide +kernel, by decide +kernel⟩
theorem scNostepInit : FnScope ["self", "index"] ["self", "index"] (defScope sNostepInit) := ⟨rfl, rfl, rfl, by decide +kernel, rfl, by decide +kernel, by decide +kernel⟩
theorem scNodeedInit : FnScope ["self", "index"] ["self", "index"] (defScope sNodeedInit) := ⟨rfl, rfl, rfl, by decide +kernel, rfl, by decide +kernel, by decide +kernel⟩
theorem scNoformInit : FnScope ["self", "form"] ["self", "form"] (defScope sNoformInit) := ⟨rfl, rfl, rfl, by decide +kernel, rfl, by decide +kernel, by decide +kernel⟩
theorem scNopartInit : FnScope ["self", "part"] ["self", "part"] (defScope sNopartInit) := ⟨rfl, rfl, rfl, by decide +kernel, rfl, by decide +kernel, by decide +kernel⟩
theorem scNolineInit : FnScope ["self", "line"] ["self", "line"] (defScope sNolineInit) := ⟨rfl, rfl, rfl, by decide +kernel, rfl, by decide +kernel, by decide +kernel⟩
theorem scDoorsInit : FnScope ["self", "put", "find", "strike", "wish"] ["self", "put", "find", "strike", "wish"] (defScope sDoorsInit) := ⟨rfl, rfl, rfl, by decide +kernel, rfl, by decide +kernel, by decide +kernel⟩
theorem scDoorsEq : FnScope ["self", "other", "doors"] ["self", "other"] (defScope sDoorsEq) := ⟨rfl, rfl, rfl, by decide +kernel, rfl, by decide +kernel, by decide +kernel⟩
theorem scDoorsPut : FnScope ["self"] ["self"] (defScope sDoorsPut) := ⟨rfl, rfl, rfl, by decide +kernel, rfl, by decide +kernel, by decide +kernel⟩
theorem scDoorsFind : FnScope ["self"] ["self"] (defScope sDoorsFind) := ⟨rfl, rfl, rfl, by decide +kernel, rfl, by decide +kernel, by decide +kernel⟩
theorem scDoorsStrike : FnScope ["self"] ["self"] (defScope sDoorsStrike) := ⟨rfl, rfl, rfl, by decide +kernel, rfl, by decide +kernel, by decide +kernel⟩
theorem scDoorsWish : FnScope ["self"] ["self"] (defScope sDoorsWish) := ⟨rfl, rfl, rfl, by decide +kernel, rfl, by decide +kernel, by decide +kernel⟩
theorem scDoorsFolded : FnScope ["self", "names", "put", "find", "strike"] ["self", "names"] (defScope sDoorsFolded) := ⟨rfl, rfl, rfl, by decide +kernel, rfl, by decide +kernel, by decide +kernel⟩
theorem scAnswers : FnScope ["doors", "deeds", "foldings", "forms", "told", "name", "text", "folding", "form", "there"] ["doors", "deeds"] (defScope sAnswers) := ⟨rfl, rfl, rfl, by decide +kernel, rfl, by decide +kernel, by decide +kernel⟩
theorem scWished : FnScope ["doors", "deeds"] ["doors", "deeds"] (defScope sWished) := ⟨rfl, rfl, rfl, by decide +kernel, rfl, by decide +kernel, by decide +kernel⟩
theorem scFoldingsOf : FnScope ["doors"] ["doors"] (defScope sFoldingsOf) := ⟨rfl, rfl, rfl, by decide +kernel, rfl, by decide +kernel, by decide +kernel⟩
theorem scAreNames : FnScope ["value", "name"] ["value"] (defScope sAreNames) := ⟨rfl, rfl, rfl, by decide +kernel, rfl, by decide +kernel, by decide +kernel⟩
theorem scIsName : FnScope ["value"] ["value"] (defScope sIsName) := ⟨rfl, rfl, rfl, by decide +kernel, rfl, by decide +kernel, by decide +kernel⟩
theorem scCheckDeeds : FnScope ["value", "at", "deed"] ["value"] (defScope sCheckDeeds) := ⟨rfl, rfl, rfl, by decide +kernel, rfl, by decide +kernel, by decide +kernel⟩
theorem scIsDeed : FnScope ["value"] ["value"] (defScope sIsDeed) := ⟨rfl, rfl, rfl, by decide +kernel, rfl, by decide +kernel, by decide +kernel⟩
theorem scFoldingInit : FnScope ["self", "steps", "at", "step"] ["self", "steps"] (defScope sFoldingInit) := ⟨rfl, rfl, rfl, by decide +kernel, rfl, by decide +kernel, by decide +kernel⟩
theorem scFoldingCall : FnScope ["self", "text"] ["self", "text"] (defScope sFoldingCall) := ⟨rfl, rfl, rfl, by decide +kernel, rfl, by decide +kernel, by decide +kernel⟩
theorem scFoldingGetitem : FnScope ["self", "at"] ["self", "at"] (defScope sFoldingGetitem) := ⟨rfl, rfl, rfl, by decide +kernel, rfl, by decide +kernel, by decide +kernel⟩
theorem scFoldingIter : FnScope ["self"] ["self"] (defScope sFoldingIter) := ⟨rfl, rfl, rfl, by decide +kernel, rfl, by decide +kernel, by decide +kernel⟩
theorem scFoldingLen : FnScope ["self"] ["self"] (defScope sFoldingLen) := ⟨rfl, rfl, rfl, by decide +kernel, rfl, by decide +kernel, by decide +kernel⟩
theorem scFoldingEq : FnScope ["self", "other"] ["self", "other"] (defScope sFoldingEq) := ⟨rfl, rfl, rfl, by decide +kernel, rfl, by decide +kernel, by decide +kernel⟩
theorem scFoldingAdd : FnScope ["self", "other"] ["self", "other"] (defScope sFoldingAdd) := ⟨rfl, rfl, rfl, by decide +kernel, rfl, by decide +kernel, by decide +kernel⟩
theorem scFoldingContains : FnScope ["self", "x"] ["self", "x"] (defScope sFoldingContains) := ⟨rfl, rfl, rfl, by decide +kernel, rfl, by decide +kernel, by decide +kernel⟩
theorem scFoldingSteps : FnScope ["self"] ["self"] (defScope sFoldingSteps) := ⟨rfl, rfl, rfl, by decide +kernel, rfl, by decide +kernel, by decide +kernel⟩
theorem scFoldingWithout : FnScope ["self", "index"] ["self", "index"] (defScope sFoldingWithout) := ⟨rfl, rfl, rfl, by decide +kernel, rfl, by decide +kernel, by decide +kernel⟩
theorem scLawWell : FnScope ["script", "k", "cell"] ["script", "k"] (defScope sLawWell) := ⟨rfl, rfl, rfl, by decide +kernel, rfl, by decide +kernel, by decide +kernel⟩
theorem scLawDraw : FnScope ["well", "many", "drawn", "mixed"] ["well", "many"] (defScope sLawDraw) := ⟨rfl, rfl, rfl, by decide +kernel, rfl, by decide +kernel, by decide +kernel⟩
theorem scLawSign : FnScope ["well"] ["well"] (defScope sLawSign) := ⟨rfl, rfl, rfl, by decide +kernel, rfl, by decide +kernel, by decide +kernel⟩
theorem scLawFew : FnScope ["well", "letter"] ["well"] (defScope sLawFew) := ⟨rfl, rfl, rfl, by decide +kernel, rfl, by decide +kernel, by decide +kernel⟩
theorem scLawStep : FnScope ["well", "few", "longest", "way", "one", "two", "signs", "turn", "more", "cut"] ["well", "few", "longest"] (defScope sLawStep) := ⟨rfl, rfl, rfl, by decide +kernel, rfl, by decide +kernel, by decide +kernel⟩
theorem scLawSteps : FnScope ["well", "few", "most", "longest", "turn"] ["well", "few", "most", "longest"] (defScope sLawSteps) := ⟨rfl, rfl, rfl, by decide +kernel, rfl, by decide +kernel, by decide +kernel⟩
theorem scLawNear : FnScope ["well", "few", "steps", "longest", "way", "spot"] ["well", "few", "steps", "longest"] (defScope sLawNear) := ⟨rfl, rfl, rfl, by decide +kernel, rfl, by decide +kernel, by decide +kernel⟩
theorem scLawFour : FnScope ["well", "few", "most", "longest", "base", "found", "turn"] ["well", "few", "most", "longest"] (defScope sLawFour) := ⟨rfl, rfl, rfl, by decide +kernel, rfl, by decide +kernel, by decide +kernel⟩
theorem scLawText : FnScope ["well", "few", "size", "signs", "turn", "sign"] ["well", "few"] (defScope sLawText) := ⟨rfl, rfl, rfl, by decide +kernel, rfl, by decide +kernel, by decide +kernel⟩
theorem scLawMade : FnScope ["step", "text", "turn", "sign"] ["step", "text"] (defScope sLawMade) := ⟨rfl, rfl, rfl, by decide +kernel, rfl, by decide +kernel, by decide +kernel⟩
theorem scLawFold : FnScope ["steps", "text", "step"] ["steps", "text"] (defScope sLawFold) := ⟨rfl, rfl, rfl, by decide +kernel, rfl, by decide +kernel, by decide +kernel⟩
theorem scLawDeeds : FnScope ["script", "start", "well", "few", "most", "texts", "acts", "turn", "source", "door", "text", "way"] ["script", "start", "well", "few", "most"] (defScope sLawDeeds) := ⟨rfl, rfl, rfl, by decide +kernel, rfl, by decide +kernel, by decide +kernel⟩
theorem scLawWalk : FnScope ["four", "acts", "there", "found", "door", "text", "form", "known"] ["four", "acts"] (defScope sLawWalk) := ⟨rfl, rfl, rfl, by decide +kernel, rfl, by decide +kernel, by decide +kernel⟩
theorem scLawTruths : FnScope ["told", "due", "k"] ["told", "due"] (defScope sLawTruths) := ⟨rfl, rfl, rfl, by decide +kernel, rfl, by decide +kernel, by decide +kernel⟩
theorem scLawDoors : FnScope ["four"] ["four"] (defScope sLawDoors) := ⟨rfl, rfl, rfl, by decide +kernel, rfl, by decide +kernel, by decide +kernel⟩
theorem scLawNoText : FnScope ["well", "few", "text", "spot", "signs", "sign", "bad"] ["well", "few"] (defScope sLawNoText) := ⟨rfl, rfl, rfl, by decide +kernel, rfl, by decide +kernel, by decide +kernel⟩
theorem scLawNoDeed : FnScope ["well", "few", "text", "way", "door", "picked"] ["well", "few"] (defScope sLawNoDeed) := ⟨rfl, rfl, rfl, by decide +kernel, rfl, by decide +kernel, by decide +kernel⟩
theorem scLawRefused : FnScope ["is_wish", "house", "acts", "found", "e", "odd"] ["is_wish", "house", "acts"] (defScope sLawRefused) := ⟨rfl, rfl, rfl, by decide +kernel, rfl, by decide +kernel, by decide +kernel⟩
theorem scLaw : FnScope ["script", "well", "is_wish", "way", "few", "four", "acts", "house", "spot", "other", "bad", "due", "kept", "turn", "wish"] ["script"] (defScope sLaw) := ⟨rfl, rfl, rfl, by decide +kernel, rfl, by decide +kernel, by decide +kernel⟩
end Pd

set_option maxHeartbeats 4000000
namespace Pd
open PySem PySem.Spec PyProof.Rows L2 SX
/-! ### bundles -/
/-- a def that may be called by its name, all its arguments by position -/
structure Cl (P : Program) (w : World) (K : PySem.W.Frag) (mg : Str → Option Value) (base : Heap) (k : Nat) (x : Str) (sp : Sp) : Prop where
  ex : ∃ (f : Addr) (fd : FuncData) (ps : List Str), FnOk P w K mg base CX0 k f fd ps sp ∧ mg x = some (.ref f) ∧ PySem.W.keepIn K (.ref f) = true ∧ Binds K fd ps []
/-- .. that gives a new text -/
structure ClT (P : Program) (w : World) (K : PySem.W.Frag) (mg : Str → Option Value) (base : Heap) (k : Nat) (x : Str) (sp : Sp) : Prop where
  ex : ∃ (f : Addr), FnT P w K mg base CX0 k f sp ∧ mg x = some (.ref f) ∧ PySem.W.keepIn K (.ref f) = true
/-- a def as it stands behind the top -/
structure Df (K : PySem.W.Frag) (mg : Str → Option Value) (x : Str) (st : Stmt) (f : Addr) (fd : FuncData) : Prop where
  fn : Fun K x x st f fd
  mgf : mg x = some (.ref f)
  kp : PySem.W.keepIn K (.ref f) = true
def E0 : XK := fun _ _ _ => False
section
variable {X : Cx} {k j : Nat} {x : Str} {sp : Sp} {p pos : Pos} {e : Expr} {es : List Expr} {t : TA}
theorem pe_cl (c : Cl X.prog X.w X.K X.mg X.base k x sp) (hr : Room j X.A) (hk : k ≤ j) (hg : Gl X x) (ha : PA X (e :: es) t)
    (hdb : (x == ("__debug__" : Str)) = false := by decide) (he : starEach (e :: es) X.env = (false, eval e X.env) :: starEach es X.env := by rfl) (hpl : (backTo pos (starEach es X.env)).any (·.1) = false := by rfl) :
    PE X (.Call (.Name x p) (e :: es) [] pos) (tCall sp [] E0 t) := by
  obtain ⟨f, fd, ps, F, hm, kp, b⟩ := c.ex
  exact pe_call F (hr.mono hk) hg hm kp b .nil pass0 ha hdb he hpl
theorem pef_cl (c : ClT X.prog X.w X.K X.mg X.base k x sp) (hr : Room j X.A) (hk : k ≤ j) (hg : Gl X x) (ha : PA X (e :: es) t)
    (hdb : (x == ("__debug__" : Str)) = false := by decide) (he : starEach (e :: es) X.env = (false, eval e X.env) :: starEach es X.env := by rfl) (hpl : (backTo pos (starEach es X.env)).any (·.1) = false := by rfl) :
    PEF X (.Call (.Name x p) (e :: es) [] pos) (fun σ H Q => t σ H fun vs H1 => sp vs H1 Q E0) := by
  obtain ⟨f, F, hm, kp⟩ := c.ex
  exact pef_call F (hr.mono hk) hg hm kp pass0 ha hdb he hpl
end
/-! ### what the top has bound -/
structure Nms (mg : Str → Option Value) : Prop where
  len : mg "len" = none
  int : mg "int" = none
  abs : mg "abs" = none
  max : mg "max" = none
  min : mg "min" = none
  range : mg "range" = none
  isi : mg "isinstance" = none
  str : mg "str" = none
  tuple : mg "tuple" = none
  bool : mg "bool" = none
  all : mg "all" = none
  set : mg "set" = none
  enum : mg "enumerate" = none
theorem powW_ok2 {i j : Int} {a : Nat} (h : i.natAbs < 2 ^ a) (h0 : 0 < a) (hj : 0 ≤ j) (hj2 : j ≤ 1000) (ha : a ≤ 100000) : CPowW i j := by
  refine ⟨hj, ?_⟩
  have e := bits_lt h h0
  have e2 : (Builtin.Int.intBits i : Int) ≤ 100000 := by omega
  have e3 : (0:Int) ≤ (Builtin.Int.intBits i : Int) := by omega
  have : (Builtin.Int.intBits i : Int) * j ≤ 100000 * 1000 := Int.mul_le_mul e2 hj2 hj (by omega)
  omega
theorem p36 : (10 : Int) ^ (36 : Int).toNat + 67 = 1000000000000000000000000000000000067 := by decide +kernel
theorem p18 : (10 : Int) ^ (18 : Int).toNat = 1000000000000000000 := by decide +kernel
theorem p42 : (10 : Int) ^ (42 : Int).toNat + 63 = 1000000000000000000000000000000000000000063 := by decide +kernel
theorem p40 : (10 : Int) ^ (40 : Int).toNat + 121 = 10000000000000000000000000000000000000121 := by decide +kernel
theorem p6 : (10 : Int) ^ (6 : Int).toNat = 1000000 := by decide +kernel
/-! ### heaps -/
/-- only the object at j may have changed -/
def Kp (j : Addr) (H H' : Hp) : Prop := ∀ b o, b ≠ j → H b = some o → H' b = some o
theorem Kp.refl {j : Addr} {H : Hp} : Kp j H H := fun _ _ _ h => h
theorem Kp.trans {j : Addr} {H H' H'' : Hp} (a : Kp j H H') (b : Kp j H' H'') : Kp j H H'' := fun c o n h => b c o n (a c o n h)
theorem Kp.upd {j : Addr} {H : Hp} {o : HO} : Kp j H (upd H j o) := fun b u n h => by rw [upd_ne n]; exact h
theorem Kp.new {j l : Addr} {H H' : Hp} {o : HO} (a : Kp j H H') (hl : H' l = none) : Kp j H (L2.upd H' l o) := fun b u n h => by
  rw [upd_ne (ne_of_none (a b u n h) hl)]
  exact a b u n h
/-- the jar: its three numbers; at most n draws so far -/
def JarAt (H : Hp) (j : Addr) (n : Nat) : Prop := ∃ a b c : Int, H j = some (.lst [.int a, .int b, .int c]) ∧ 0 ≤ a ∧ 0 ≤ b ∧ b < 10 ^ 40 ∧ 0 ≤ c ∧ c ≤ n
theorem JarAt.le {H : Hp} {j : Addr} {n m : Nat} (h : JarAt H j n) (l : n ≤ m) : JarAt H j m := by
  obtain ⟨a, b, c, h1, h2, h3, h4, h5, h6⟩ := h
  exact ⟨a, b, c, h1, h2, h3, h4, h5, by omega⟩
theorem JarAt.new {H : Hp} {j l : Addr} {n : Nat} {o : HO} (h : JarAt H j n) (hl : H l = none) : JarAt (L2.upd H l o) j n := by
  obtain ⟨a, b, c, h1, r⟩ := h
  exact ⟨a, b, c, by rw [upd_ne (ne_of_none h1 hl)]; exact h1, r⟩
/-! ### promises -/
def spJar (K : PySem.W.Frag) : Sp := fun vs H Q _ => ∃ (a : Addr) (ns : List Int) (k : Int), vs = [.ref a, .int k] ∧ SqL K H a (ns.map V.int) ∧ ns.length ≤ 63 ∧ 0 ≤ k ∧ k < 100 ∧
  ∀ j H', H j = none → JarAt H' j 0 → (∀ b o, H b = some o → H' b = some o) → Q (.ref j) H'
def spDraw : Sp := fun vs H Q _ => ∃ (j : Addr) (m : Int) (n : Nat), vs = [.ref j, .int m] ∧ JarAt H j n ∧ n < 1000000 ∧ 1 ≤ m ∧ m ≤ 100000000000000000000000000000000000000000000000000 ∧
  ∀ r H', 0 ≤ r → r < m → JarAt H' j (n + 1) → Kp j H H' → Q (.int r) H'
def spSign : Sp := fun vs H Q _ => ∃ (j : Addr) (n : Nat), vs = [.ref j] ∧ JarAt H j n ∧ n < 1000000 ∧
  ∀ c H', c ∈ CH → JarAt H' j (n + 1) → Kp j H H' → Q (.str ⟨#[c]⟩) H'
section
variable {P : Program} {w : World} {K : PySem.W.Frag} {mg : Str → Option Value} {base : Heap}
def jarT : TE := (tLst (tCons (tCB (fun xs H Q => ∃ i j, xs = [V.int i, V.int j] ∧ Q (V.int (if j > i then j else i)) H)
            (tCons (tC (V.int 0)) (tCons (tOp (rI0 fun i j => V.int (i - j)) (tVar 2) (tOp (rI CPowW fun i j => V.int (i ^ j.toNat)) (tC (V.int 10)) (tC (V.int 18)))) tNil)))
          (tCons (tOp (rI0 fun i j => V.int (i + j)) (tOp (rI (fun _ j => 0 < j) fun i j => V.int (i % j))
                (tCB (fun xs H Q => (∃ i, xs = [V.int i] ∧ Q (V.int i) H) ∨ ∃ k, xs = [V.bl k] ∧ Q (V.int (if k = true then 1 else 0)) H) (tCons (tVar 2) tNil))
                (tOp (rI0 fun i j => V.int (i + j)) (tOp (rI CPowW fun i j => V.int (i ^ j.toNat)) (tC (V.int 10)) (tC (V.int 36))) (tC (V.int 67))))
              (tOp (rI CMul fun i j => V.int (i * j)) (tC (V.int 1299709)) (tVar 1)))
            (tCons (tC (V.int 0)) tNil))))
theorem jar_tail {a : Addr} {k z : Int} {H : Hp} {Q : VK} (hk0 : 0 ≤ k) (hk1 : k < 100) (hz0 : 0 ≤ z) (q : ∀ j H', H j = none → JarAt H' j 0 → (∀ b o, H b = some o → H' b = some o) → Q (.ref j) H') :
    jarT [some (.ref a), some (.int k), some (.int z)] H Q := by
  have pw : ∀ e : Int, 0 ≤ e → e ≤ 1000 → CPowW 10 e := fun e h0 h1 => powW_ok2 (a := 4) (by decide) (by decide) h0 h1 (by decide)
  refine ⟨_, rfl, _, _, rfl, rfl, pw 18 (by decide) (by decide), _, _, rfl, rfl, _, _, rfl, _, rfl, .inl ⟨_, rfl, _, _, rfl, rfl, pw 36 (by decide) (by decide), _, _, rfl, rfl, _, _, rfl, rfl, (show (0:Int) < 10 ^ (36 : Int).toNat + 67 by rw [p36]; decide),
    _, rfl, _, _, rfl, rfl, .inl ⟨by decide, by decide⟩, _, _, rfl, rfl, by show 3 ≤ sizeLine; decide, fun l hl => ?_⟩⟩
  refine q l _ hl ⟨_, _, _, upd_same, ?_, ?_, ?_, by decide, by decide⟩ fun b o h => by rw [upd_ne (ne_of_none h hl)]; exact h
  · split <;> omega
  · rw [p36]; omega
  · rw [p36]; omega
theorem ok_sign {f : Addr} {fd : FuncData} (F : Fun K "_law_sign" "_law_sign" sLawSign f fd) (D : Cl P w K mg base 1 "_law_draw" spDraw) : FnT P w K mg base CX0 2 f spSign := by
  refine fnT_ret F scLawSign rfl (fun kV doc pm an cdv ct us hl => match us, hl with | [_], _ => rfl) (fun vs H Q E h => ?_) (fun cdv A outer s H vs Q E hr h => ?_)
  · obtain ⟨j, n, rfl, _⟩ := h
    rfl
  · obtain ⟨j, n, rfl, hJ, hn, q⟩ := h
    refine ⟨_, pef_item (pe_cl D hr (by decide) rfl (pa_cons (pv 0) (pa_cons pe_int pa_nil))) (fun _ _ => rfl), ?_⟩
    refine ⟨_, rfl, j, 68, n, rfl, hJ, hn, by decide, by decide, fun r H' h0 h1 J' kp => ?_⟩
    have e : (("abcdefghijklmnopqrstuvwxyzABCDEFGHIJKLMNOPQRSTUVWXYZ0123456789 -._/'" : Str)) = S CH := by decide +kernel
    have hl : CH.length = 68 := rfl
    have hr : r.toNat < CH.length := by omega
    refine ⟨r, CH[r.toNat], rfl, h0, by rw [e, S_len]; omega, by rw [e, S_len]; decide, by rw [e]; simp [hr], q _ _ (List.getElem_mem _) J' kp⟩
end
end Pd

set_option maxHeartbeats 4000000
namespace Pd
open PySem PySem.Spec PyProof.Rows L2 SX
def sg (c : Nat) : Str := ⟨#[c]⟩
theorem sg_S (c : Nat) : sg c = S [c] := rfl
/-- eight signs, in a list whose tokens are known -/
structure SgnsAt (H : Hp) (a : Addr) (gs : List Nat) : Prop where
  at_ : TxtsAt H a (gs.map sg)
  len : gs.length = 8
  ok : ∀ c ∈ gs, c ∈ CH
theorem SgnsAt.kp {H H' : Hp} {j a : Addr} {gs : List Nat} (h : SgnsAt H a gs) (k : Kp j H H') (hj : ∃ xs, H j = some (.lst xs)) : SgnsAt H' a gs := by
  refine ⟨?_, h.len, h.ok⟩
  obtain ⟨its, n, m, q, e, r⟩ := h.at_
  obtain ⟨xs, hj⟩ := hj
  have ne : a ≠ j := by rintro rfl; rw [e] at hj; cases hj
  exact ⟨its, n, m, q, k a _ ne e, r⟩
theorem SgnsAt.new {H : Hp} {l a : Addr} {gs : List Nat} {o : HO} (h : SgnsAt H a gs) (hl : H l = none) : SgnsAt (L2.upd H l o) a gs := by
  refine ⟨?_, h.len, h.ok⟩
  obtain ⟨its, n, m, q, e, r⟩ := h.at_
  exact ⟨its, n, m, q, by rw [upd_ne (ne_of_none e hl)]; exact e, r⟩
theorem SgnsAt.ne {H : Hp} {j a : Addr} {gs : List Nat} {xs : List V} (h : SgnsAt H a gs) (hj : H j = some (.lst xs)) : a ≠ j := by
  obtain ⟨its, n, m, q, e, r⟩ := h.at_
  rintro rfl; rw [e] at hj; cases hj
theorem JarAt.lst {H : Hp} {j : Addr} {n : Nat} (h : JarAt H j n) : ∃ xs, H j = some (.lst xs) := by
  obtain ⟨a, b, c, h1, _⟩ := h
  exact ⟨_, h1⟩
theorem JarAt.kp {H H' : Hp} {j : Addr} {n : Nat} (h : JarAt H j n) (e : H' j = H j) : JarAt H' j n := by
  obtain ⟨a, b, c, h1, r⟩ := h
  exact ⟨a, b, c, e.trans h1, r⟩
theorem S_at {l : List Nat} {i : Nat} (h : i < l.length) : (S l).cps[i]? = some l[i] := by
  show l.toArray[i]? = _
  simp [h]
theorem abc_S : ("abcdefghijklmnopqrstuvwxyz" : Str) = S (CH.take 26) := by decide +kernel
theorem digits_S : ("0123456789" : Str) = S ((CH.drop 52).take 10) := by decide +kernel
theorem small_CH : ∀ c ∈ CH.take 26, c ∈ CH ∧ c < 128 ∧ up1 c ∈ CH := by decide
theorem dig_CH : ∀ c ∈ (CH.drop 52).take 10, c ∈ CH := by decide
def spSigns : Sp := fun vs H Q _ => ∃ (j : Addr) (n : Nat), vs = [.ref j] ∧ JarAt H j n ∧ n + 6 < 1000000 ∧
  ∀ p gs H', H p = none → SgnsAt H' p gs → JarAt H' j (n + 6) → Kp j H H' → Q (.ref p) H'
theorem upper_sg {c : Nat} (h : c < 128) : Txt.upper (sg c) = sg (up1 c) := upper_S (a := [c]) (by simpa using h)
section
variable {P : Program} {w : World} {K : PySem.W.Frag} {mg : Str → Option Value} {base : Heap}
end
end Pd

set_option maxHeartbeats 4000000
namespace Pd
open PySem PySem.Spec PyProof.Rows L2 SX
/-! ### repeated texts -/
theorem fold_rep (x : List Nat) : ∀ (k : Nat) (acc : Array Nat), ∃ m : List Nat, ((List.replicate k x.toArray).foldl (· ++ ·) acc) = (acc.toList ++ m).toArray ∧ m.length = k * x.length ∧ ∀ c ∈ m, c ∈ x
  | 0, acc => ⟨[], by simp, by simp, fun _ h => nomatch h⟩
  | k + 1, acc => by
    obtain ⟨m, e, l, h⟩ := fold_rep x k (acc ++ x.toArray)
    refine ⟨x ++ m, ?_, by rw [List.length_append, l, Nat.add_one_mul]; omega, fun c hc => ?_⟩
    · rw [List.replicate_succ, List.foldl_cons, e]
      simp
    · rcases List.mem_append.mp hc with hc | hc
      · exact hc
      · exact h c hc
theorem mul_S (l : List Nat) {n : Int} (h0 : 0 ≤ n) : ∃ m : List Nat, Txt.mul (S l) n = S m ∧ m.length ≤ n.toNat * l.length ∧ ∀ c ∈ m, c ∈ l := by
  unfold Txt.mul
  split
  · exact ⟨[], rfl, by simp, fun _ h => nomatch h⟩
  · split
    · refine ⟨l, rfl, ?_, fun _ h => h⟩
      have : 1 ≤ n.toNat := by omega
      calc l.length = 1 * l.length := (Nat.one_mul _).symm
        _ ≤ n.toNat * l.length := Nat.mul_le_mul_right _ this
    · obtain ⟨m, e, hl, hm⟩ := fold_rep l n.toNat #[]
      refine ⟨m, ?_, Nat.le_of_eq hl, hm⟩
      show (⟨(List.replicate n.toNat l.toArray).foldl (· ++ ·) #[]⟩ : Str) = _
      rw [e]
      simp [S]
theorem mulOk_S {l : List Nat} {n : Int} (h0 : 0 ≤ n) (h1 : n ≤ 60) (hl : l.length ≤ 1000) : PySem.MulOk (S l) n := by
  refine ⟨?_, fun h2 _ => ?_, fun h2 _ => ?_⟩
  · rw [decide_eq_false (by omega), decide_eq_false (by omega)]; rfl
  · rw [S_len]
    intro h3
    have h5 : (l.length : Int) * n ≤ 1000 * 60 := Int.mul_le_mul (by omega) h1 h0 (by omega)
    have h6 : (l.length : Int) ≤ (2 ^ 63 - 1 : Int) / n := Int.le_ediv_of_mul_le (by omega) (by omega)
    omega
  · rw [S_len]
    refine PyProof.Rows.short24 ?_
    have : l.length * n.toNat ≤ 1000 * 60 := Nat.mul_le_mul hl (by omega)
    omega

def spText : Sp := fun vs H Q _ => ∃ (j a : Addr) (n : Nat) (gs : List Nat), vs = [.ref j, .ref a] ∧ JarAt H j n ∧ SgnsAt H a gs ∧ n + 100 < 1000000 ∧
  ∀ l H', Good l → JarAt H' j (n + 100) → Kp j H H' → Q (.str (S l)) H'
theorem SgnsAt.item {H : Hp} {a : Addr} {gs : List Nat} (h : SgnsAt H a gs) {r : Int} (h0 : 0 ≤ r) (h1 : r < 8) : ∃ c ∈ CH, atI ((gs.map sg).map V.str) r = some (.str (sg c)) := by
  have e : r.toNat < gs.length := by rw [h.len]; omega
  refine ⟨gs[r.toNat], h.ok _ (List.getElem_mem e), ?_⟩
  have z := atI_nat (xs := (gs.map sg).map V.str) (j := r.toNat) (v := .str (sg gs[r.toNat])) (by simp [e])
  have e2 : ((r.toNat : Nat) : Int) = r := by omega
  rw [e2] at z
  exact z
theorem SgnsAt.len' {H : Hp} {a : Addr} {gs : List Nat} (h : SgnsAt H a gs) : (((gs.map sg).map V.str).length : Int) = 8 := by
  rw [List.length_map, List.length_map, h.len]; rfl
theorem four_item {r : Int} (h0 : 0 ≤ r) (h1 : r < 4) : ∃ m : Int, atI [V.int 1, V.int 1, V.int 2, V.int 5] r = some (.int m) ∧ 0 ≤ m ∧ m ≤ 5 := by
  obtain rfl | rfl | rfl | rfl : r = 0 ∨ r = 1 ∨ r = 2 ∨ r = 3 := by omega
  · exact ⟨1, rfl, by decide, by decide⟩
  · exact ⟨1, rfl, by decide, by decide⟩
  · exact ⟨2, rfl, by decide, by decide⟩
  · exact ⟨5, rfl, by decide, by decide⟩
section
variable {P : Program} {w : World} {K : PySem.W.Frag} {mg : Str → Option Value} {base : Heap}
end
end Pd

set_option maxHeartbeats 4000000
namespace Pd
open PySem PySem.Spec PyProof.Rows L2 SX
def spDropped : Sp := fun vs H Q _ => ∃ (j a : Addr) (n : Nat) (gs : List Nat), vs = [.ref j, .ref a] ∧ JarAt H j n ∧ SgnsAt H a gs ∧ n + 40 < 1000000 ∧
  ∀ cs H', Stp.ok (.drop cs) → JarAt H' j (n + 40) → Kp j H H' → Q (.str (S cs)) H'
theorem three_item {r : Int} (h0 : 0 ≤ r) (h1 : r < 3) : ∃ m : Int, atI [V.int 0, V.int 1, V.int 9] r = some (.int m) ∧ 0 ≤ m ∧ m ≤ 9 := by
  obtain rfl | rfl | rfl : r = 0 ∨ r = 1 ∨ r = 2 := by omega
  · exact ⟨0, rfl, by decide, by decide⟩
  · exact ⟨1, rfl, by decide, by decide⟩
  · exact ⟨9, rfl, by decide, by decide⟩
/-- a step in the heap -/
def stpVals : Stp → List V
  | .low => [.str "lower"]
  | .swap a b => [.str "swap", .str (sg a), .str (sg b)]
  | .drop cs => [.str "drop", .str (S cs)]
  | .lead a => [.str "lead", .str (sg a)]
  | .once a => [.str "once", .str (sg a)]
  | .cut n => [.str "cut", .int (n : Nat)]
/-- a step of once: a tuple, or one whose object is known -/
def OnceAt (H : Hp) (p : Addr) (a : Str) : Prop := H p = Option.some (.tup [.str "once", .str a]) ∨ ∃ o, H p = Option.some (.frz o (.tup [.str "once", .str a]))
def StpAt (H : Hp) (p : Addr) : Stp → Prop
  | .swap a b => SwapAt H p (sg a) (sg b)
  | .once a => OnceAt H p (sg a)
  | st => H p = some (.tup (stpVals st))
theorem StpAt.seq {K : PySem.W.Frag} {H : Hp} {p : Addr} {st : Stp} (h : StpAt H p st) : SqT K H p (stpVals st) := by
  cases st with
  | swap a b => exact SwapAt.seq h
  | low => exact SqT.of h
  | drop _ => exact SqT.of h
  | lead _ => exact SqT.of h
  | once _ =>
    rcases h with h | ⟨o, h⟩
    · exact SqT.of h
    · exact .inl (.inr ⟨o, h⟩)
  | cut _ => exact SqT.of h
theorem StpAt.some {H : Hp} {p : Addr} {st : Stp} (h : StpAt H p st) : ∃ o, H p = some o ∧ ∀ xs, o ≠ .lst xs := by
  cases st with
  | swap a b =>
    obtain ⟨n, t0, t, u, e, _⟩ := h
    exact ⟨_, e, fun _ h => nomatch h⟩
  | low => exact ⟨_, h, fun _ h => nomatch h⟩
  | drop _ => exact ⟨_, h, fun _ h => nomatch h⟩
  | lead _ => exact ⟨_, h, fun _ h => nomatch h⟩
  | once _ =>
    rcases h with h | ⟨o, h⟩
    · exact ⟨_, h, fun _ h => nomatch h⟩
    · exact ⟨_, h, fun _ h => nomatch h⟩
  | cut _ => exact ⟨_, h, fun _ h => nomatch h⟩
/-- what stands at p is the same -/
theorem StpAt.same {H H' : Hp} {p : Addr} {st : Stp} (h : StpAt H p st) (e : ∀ o, H p = Option.some o → H' p = Option.some o) : StpAt H' p st := by
  cases st with
  | swap a b => exact SwapAt.same h fun o u x => e _ x
  | low => exact e _ h
  | drop _ => exact e _ h
  | lead _ => exact e _ h
  | once _ =>
    rcases h with h | ⟨o, h⟩
    · exact .inl (e _ h)
    · exact .inr ⟨o, e _ h⟩
  | cut _ => exact e _ h
theorem StpAt.kp {H H' : Hp} {j p : Addr} {st : Stp} {xs : List V} (h : StpAt H p st) (k : Kp j H H') (hj : H j = Option.some (.lst xs)) : StpAt H' p st := by
  refine h.same fun o x => k p o ?_ x
  rintro rfl
  obtain ⟨o', x', ne⟩ := h.some
  rw [hj] at x'; cases x'
  exact ne _ rfl
theorem StpAt.new {H : Hp} {l p : Addr} {st : Stp} {o : HO} (h : StpAt H p st) (hl : H l = none) : StpAt (L2.upd H l o) p st :=
  h.same fun o x => by rw [upd_ne (ne_of_none x hl)]; exact x
def spStep : Sp := fun vs H Q _ => ∃ (j a : Addr) (n : Nat) (gs : List Nat), vs = [.ref j, .ref a] ∧ JarAt H j n ∧ SgnsAt H a gs ∧ n + 50 < 1000000 ∧
  ∀ p st H', H p = none → st.ok → StpAt H' p st → JarAt H' j (n + 50) → Kp j H H' → Q (.ref p) H'
theorem Kp.none {j p : Addr} {H H' : Hp} (k : Kp j H H') (hp : H' p = none) (hj : ∃ xs, H j = some (.lst xs)) (hj' : ∃ xs, H' j = some (.lst xs)) : H p = none := by
  cases h : H p with
  | none => rfl
  | some o =>
    by_cases e : p = j
    · subst e
      obtain ⟨xs, h'⟩ := hj'
      rw [h'] at hp; cases hp
    · rw [k p o e h] at hp; cases hp
section
variable {P : Program} {w : World} {K : PySem.W.Frag} {mg : Str → Option Value} {base : Heap}
end
end Pd

set_option maxHeartbeats 4000000
namespace Pd
open PySem PySem.Spec PyProof.Rows L2 SX
section
variable {P : Program} {w : World} {K : PySem.W.Frag} {mg : Str → Option Value} {base : Heap}
end
end Pd

set_option maxHeartbeats 4000000
namespace Pd
open PySem PySem.Spec PyProof.Rows L2 SX
/-! ### comprehensions over a text that give signs -/
def Ext (H H' : Hp) : Prop := ∀ b o, H b = some o → H' b = some o
theorem Ext.refl {H : Hp} : Ext H H := fun _ _ h => h
theorem Ext.trans {H H' H'' : Hp} (a : Ext H H') (b : Ext H' H'') : Ext H H'' := fun c o h => b c o (a c o h)
theorem Ext.new {H H' : Hp} {D : Addr} {o : HO} (a : Ext H H') (h : H D = none) : Ext H (upd H' D o) := fun b u e => by
  rw [upd_ne (ne_of_none e h)]; exact a b u e
theorem Ext.kp {H H' : Hp} {j : Addr} (a : Ext H H') : Kp j H H' := fun b o _ h => a b o h
theorem StpAt.ext {H H' : Hp} {p : Addr} {st : Stp} (h : StpAt H p st) (k : Ext H H') : StpAt H' p st := h.same fun o x => k p o x
theorem lc_text {l : List Nat} {g : TG} {tt : TT} {te : TE} {vs : List Nat} {σ : L2.St} {H1 : Hp} {D : Addr} {Qd : Hp → Prop} (f : Nat → Option Nat) (hl : l.length ≤ 1000) (hD : H1 D = none)
    (hs : ∀ c H acc (Nx : Hp → Prop), c ∈ l → Ext H1 H → H D = some (.lst acc) → acc.length < sizeLine →
      (∀ H', H' D = some (.lst (acc ++ ((f c).toList.map sg).map V.str)) → Ext H1 H' → Nx H') →
      g (.str (sg c)) (wipe σ vs) H fun σ2 H2 => wipe σ2 vs = wipe σ vs ∧ tt σ2 H2 fun b H3 =>
        if b = true then te σ2 H3 fun y H4 => ∃ acc', H4 D = some (.lst acc') ∧ acc'.length < sizeLine ∧ Nx (upd H4 D (.lst (acc' ++ [y]))) else Nx H3)
    (hd : ∀ H, H D = some (.lst (((l.filterMap f).map sg).map V.str)) → Ext H1 H → Qd H) :
    ∃ W : Nat → Nat → Hp → Prop, (∃ m, W 0 m (upd H1 D (.lst []))) ∧ ∀ i m H, W i m H →
      ((Its (S l)).stop i H ∧ Qd H) ∨ ((Its (S l)).go i H ∧ ∃ Nx : Hp → Prop, (∀ H', Nx H' → ∃ m', m' < m ∧ W (i + 1) m' H') ∧ ∀ x H', (Its (S l)).yld i H x H' → g x (wipe σ vs) H' fun σ2 H2 => wipe σ2 vs = wipe σ vs ∧ tt σ2 H2 fun b H3 =>
        if b = true then te σ2 H3 fun y H4 => ∃ acc, H4 D = some (.lst acc) ∧ acc.length < sizeLine ∧ Nx (upd H4 D (.lst (acc ++ [y]))) else Nx H3) := by
  have hsz : (S l).cps.size = l.length := by simp [S]
  have key := lc_it (g := g) (tt := tt) (te := te) (vs := vs) (σ := σ) (H1 := H1) (D := D) (Qd := Qd) (walk_str (z := S l))
    (fun i H => H D = some (.lst ((((l.take i).filterMap f).map sg).map V.str)) ∧ Ext H1 H) ⟨by rw [List.take_zero]; exact upd_same, Ext.refl.new hD⟩ (fun _ _ _ _ => trivial) ?_ ?_
  · exact key
  · rintro i x H H' hi ⟨h1, h2⟩ ⟨rfl, c, hc, rfl⟩
    have hc' : l[i]? = some c := by simpa [S] using hc
    have hil : i < l.length := (List.getElem?_eq_some_iff.mp hc').1
    have hb : ∀ k, (((l.take k).filterMap f).map sg).length ≤ 1000 := fun k => by
      rw [List.length_map]
      exact Nat.le_trans (List.length_filterMap_le _ _) (Nat.le_trans (List.length_take_le' _ _) hl)
    refine hs c H' _ _ (List.mem_of_getElem? hc') h2 h1 (by rw [List.length_map, sizeLine_eq]; have := hb i; omega) fun H'' e1 e2 => ⟨?_, e2⟩
    rw [e1, List.take_succ, hc', List.filterMap_append, List.map_append, List.map_append]
    congr 4
  · rintro H ⟨h1, h2⟩
    rw [hsz, List.take_length] at h1
    exact hd H h1 h2
theorem joinL_sg : ∀ m : List Nat, TL.joinL [] (m.map fun c => [c]) = m
  | [] => rfl
  | [c] => rfl
  | c :: d :: r => by
    have ih := joinL_sg (d :: r)
    show [c] ++ ([] ++ TL.joinL [] ((d :: r).map fun c => [c])) = c :: d :: r
    rw [ih]
    rfl
theorem join_sg (m : List Nat) : Txt.join "" (m.map sg) = S m := by
  have e : m.map sg = (m.map fun c => [c]).map S := by rw [List.map_map]; rfl
  have e2 : ("" : Str) = S [] := rfl
  rw [e, e2, join_S, joinL_sg]
theorem sum_sg (m : List Nat) : ((m.map sg).map (·.length)).sum = m.length := by
  induction m with
  | nil => rfl
  | cons c m ih =>
    rw [List.map_cons, List.map_cons, List.sum_cons, ih, List.length_cons]
    show 1 + m.length = m.length + 1
    omega
/-- what join asks of such a list -/
theorem join_ask {K : PySem.W.Frag} {H : Hp} {p : Addr} {m : List Nat} {Q : VK} (h : H p = some (.lst ((m.map sg).map V.str))) (hl : m.length ≤ 1000) (q : Q (.str (S m)) H) :
    ∃ a p', ∃ ys : List Str, V.str "" = .str a ∧ [V.ref p] = [.ref p'] ∧ (SqL K H p' (ys.map V.str) ∨ SqT K H p' (ys.map V.str)) ∧
      (ys.map (·.length)).sum + ys.length * a.length ≤ 16777216 ∧ Q (.str (Txt.join a ys)) H := by
  refine ⟨_, p, m.map sg, rfl, rfl, .inl (SqL.of h), ?_, by rw [join_sg]; exact q⟩
  rw [sum_sg, List.length_map]
  show m.length + m.length * 0 ≤ 16777216
  omega
/-! ### the letters' places -/
theorem ABC_S : ("ABCDEFGHIJKLMNOPQRSTUVWXYZ" : Str) = S ((CH.drop 26).take 26) := by decide +kernel
theorem find_CH : ∀ c ∈ CH, Txt.find "ABCDEFGHIJKLMNOPQRSTUVWXYZ" (sg c) = if 65 ≤ c ∧ c ≤ 90 then ((c : Int) - 65) else -1 := by decide +kernel
theorem abc_at : ∀ c ∈ CH, 65 ≤ c ∧ c ≤ 90 → (CH.take 26)[c - 65]? = some (c + 32) := by decide +kernel
def spSmall : Sp := fun vs H Q _ => ∃ c, vs = [.str (sg c)] ∧ c ∈ CH ∧ Q (.str (sg (lowC c))) H
section
variable {P : Program} {w : World} {K : PySem.W.Frag} {mg : Str → Option Value} {base : Heap}
end
end Pd

set_option maxHeartbeats 4000000
namespace Pd
open PySem PySem.Spec PyProof.Rows L2 SX
def wordOf : Stp → Str
  | .low => "lower" | .swap _ _ => "swap" | .drop _ => "drop" | .lead _ => "lead" | .once _ => "once" | .cut _ => "cut"
theorem word_at (st : Stp) : atI (stpVals st) 0 = some (.str (wordOf st)) := by cases st <;> rfl
def spMade : Sp := fun vs H Q _ => ∃ (p : Addr) (st : Stp) (l : List Nat), vs = [.ref p, .str (S l)] ∧ StpAt H p st ∧ st.ok ∧ Good l ∧ ∀ H', Ext H H' → Q (.str (S (mk st l))) H'
theorem fm_map (f : Nat → Nat) (l : List Nat) : l.filterMap (fun c => some (f c)) = l.map f := by
  induction l with
  | nil => rfl
  | cons c l ih => simp [List.filterMap_cons, ih]
theorem fm_filter (p : Nat → Prop) [DecidablePred p] (l : List Nat) : l.filterMap (fun c => if p c then some c else none) = l.filter (fun c => decide (p c)) := by
  induction l with
  | nil => rfl
  | cons c l ih =>
    by_cases h : p c
    · simp [List.filterMap_cons, h, ih]
    · simp [List.filterMap_cons, h, ih]
theorem mk_low (l : List Nat) : mk .low l = l.filterMap (fun c => some (lowC c)) := (fm_map _ l).symm
theorem mk_swap (a b : Nat) (l : List Nat) : mk (.swap a b) l = l.filterMap (fun c => some (swapC a b c)) := (fm_map _ l).symm
theorem mk_drop (cs : List Nat) (l : List Nat) : mk (.drop cs) l = l.filterMap (fun c => if c ∉ cs then some c else none) := (fm_filter _ l).symm
theorem ix_tupK {X : Cx} {K : PySem.W.Frag} (h : X.K = K) : IxR X (rIxT K) := by
  subst h; exact ix_tup
theorem ix_listK {X : Cx} {K : PySem.W.Frag} (h : X.K = K) : IxR X (rIxL K) := by
  subst h; exact ix_list
theorem sg_eq {a b : Nat} : V.str (sg a) = V.str (sg b) ↔ a = b := by
  constructor
  · intro h
    injection h with h
    have := SX.S_inj (a := [a]) (b := [b]) h
    injection this
  · rintro rfl; rfl
theorem slice_one (x : List Nat) (c : Nat) : ∃ m, Txt.slice (S x) (some (-1)) none = S m ∧ (V.str (S m) = V.str (sg c) ↔ x.getLast? = some c) := by
  by_cases h : x = []
  · subst h
    refine ⟨[], by decide +kernel, ?_⟩
    constructor
    · intro e
      injection e with e
      have := SX.S_inj (a := []) (b := [c]) e
      cases this
    · intro e; simp at e
  · refine ⟨_, slice_last h, ?_⟩
    have hp : 0 < x.length := List.length_pos_iff.mpr h
    have e : x.drop (x.length - 1) = [x[x.length - 1]] := by
      rw [List.drop_eq_getElem_cons (by omega)]
      rw [show x.length - 1 + 1 = x.length by omega, List.drop_length]
    rw [e]
    have e2 : x.getLast? = some (x[x.length - 1]) := by
      rw [List.getLast?_eq_getElem?, List.getElem?_eq_getElem (by omega)]
    rw [e2]
    constructor
    · intro h2
      rw [sg_eq.mp (show V.str (sg _) = V.str (sg c) from h2)]
    · intro h2
      injection h2 with h2
      rw [h2]; rfl
theorem drop_while_step {a : Nat} {l : List Nat} {i : Nat} (h : l[i]? = some a) : (l.drop i).dropWhile (fun c => decide (c = a)) = (l.drop (i + 1)).dropWhile (fun c => decide (c = a)) := by
  obtain ⟨hi, e⟩ := List.getElem?_eq_some_iff.mp h
  rw [List.drop_eq_getElem_cons hi, List.dropWhile_cons_of_pos (by simp [e])]
theorem drop_while_stop {a c : Nat} {l : List Nat} {i : Nat} (h : l[i]? = some c) (hc : c ≠ a) : (l.drop i).dropWhile (fun c => decide (c = a)) = l.drop i := by
  obtain ⟨hi, e⟩ := List.getElem?_eq_some_iff.mp h
  rw [List.drop_eq_getElem_cons hi, List.dropWhile_cons_of_neg (by simp [e, hc])]
section
variable {P : Program} {w : World} {K : PySem.W.Frag} {mg : Str → Option Value} {base : Heap}
end
end Pd

set_option maxHeartbeats 4000000
namespace Pd
open PySem PySem.Spec PyProof.Rows L2 SX
/-- the module's constants -/
structure Cst (mg : Str → Option Value) : Prop where
  chars : ∃ t, mg "CHARACTERS" = some (.str "abcdefghijklmnopqrstuvwxyzABCDEFGHIJKLMNOPQRSTUVWXYZ0123456789 -._/'" t)
  most : ∃ t, mg "LONGEST_TEXT" = some (.int 60 t)
  drop : ∃ t, mg "MOST_DROPPED" = some (.int 10 t)
  cut : ∃ t, mg "LONGEST_CUT" = some (.int 9 t)
  steps : ∃ t, mg "MOST_STEPS" = some (.int 6 t)
theorem chars_S : ("abcdefghijklmnopqrstuvwxyzABCDEFGHIJKLMNOPQRSTUVWXYZ0123456789 -._/'" : Str) = S CH := by decide +kernel
/-- a comprehension over a text that gives a value for each sign -/
theorem lc_vals {l : List Nat} {g : TG} {te : TE} {vs : List Nat} {σ : L2.St} {H1 : Hp} {D : Addr} {Qd : Hp → Prop} (f : Nat → V) (hl : l.length ≤ 1000) (hD : H1 D = none)
    (hs : ∀ c H acc (Nx : Hp → Prop), c ∈ l → Ext H1 H → H D = some (.lst acc) → acc.length < sizeLine →
      (∀ H', H' D = some (.lst (acc ++ [f c])) → Ext H1 H' → Nx H') →
      g (.str (sg c)) (wipe σ vs) H fun σ2 H2 => wipe σ2 vs = wipe σ vs ∧ tYes σ2 H2 fun b H3 =>
        if b = true then te σ2 H3 fun y H4 => ∃ acc', H4 D = some (.lst acc') ∧ acc'.length < sizeLine ∧ Nx (upd H4 D (.lst (acc' ++ [y]))) else Nx H3)
    (hd : ∀ H, H D = some (.lst (l.map f)) → Ext H1 H → Qd H) :
    ∃ W : Nat → Nat → Hp → Prop, (∃ m, W 0 m (upd H1 D (.lst []))) ∧ ∀ i m H, W i m H →
      ((Its (S l)).stop i H ∧ Qd H) ∨ ((Its (S l)).go i H ∧ ∃ Nx : Hp → Prop, (∀ H', Nx H' → ∃ m', m' < m ∧ W (i + 1) m' H') ∧ ∀ x H', (Its (S l)).yld i H x H' → g x (wipe σ vs) H' fun σ2 H2 => wipe σ2 vs = wipe σ vs ∧ tYes σ2 H2 fun b H3 =>
        if b = true then te σ2 H3 fun y H4 => ∃ acc, H4 D = some (.lst acc) ∧ acc.length < sizeLine ∧ Nx (upd H4 D (.lst (acc ++ [y]))) else Nx H3) := by
  have hsz : (S l).cps.size = l.length := by simp [S]
  have key := lc_it (g := g) (tt := tYes) (te := te) (vs := vs) (σ := σ) (H1 := H1) (D := D) (Qd := Qd) (walk_str (z := S l))
    (fun i H => H D = some (.lst ((l.take i).map f)) ∧ Ext H1 H) ⟨by rw [List.take_zero]; exact upd_same, Ext.refl.new hD⟩ (fun _ _ _ _ => trivial) ?_ ?_
  · exact key
  · rintro i x H H' hi ⟨h1, h2⟩ ⟨rfl, c, hc, rfl⟩
    have hc' : l[i]? = some c := by simpa [S] using hc
    refine hs c H' _ (fun H' => H' D = some (.lst ((l.take (i + 1)).map f)) ∧ Ext H1 H') (List.mem_of_getElem? hc') h2 h1 (by rw [List.length_map, sizeLine_eq]; have := List.length_take_le' i l; omega) fun H'' e1 e2 => ⟨?_, e2⟩
    rw [e1, List.take_succ, hc', List.map_append]
    rfl
  · rintro H ⟨h1, h2⟩
    rw [hsz, List.take_length] at h1
    exact hd H h1 h2
def isChr : List Nat → Bool
  | [c] => decide (c ∈ CH)
  | _ => false
def spIsChar : Sp := fun vs H Q _ => ∃ l : List Nat, vs = [.str (S l)] ∧ l.length ≤ 1000 ∧ Q (.bl (isChr l)) H
def goodB (l : List Nat) : Bool := decide (l.length ≤ 60) && l.all (fun c => decide (c ∈ CH))
theorem goodB_of {l : List Nat} (h : Good l) : goodB l = true := by
  unfold goodB
  rw [decide_eq_true h.2, Bool.true_and, List.all_eq_true]
  exact fun c hc => decide_eq_true (h.1 c hc)
theorem goodB_iff {l : List Nat} : goodB l = true ↔ Good l := by
  constructor
  · intro h
    unfold goodB at h
    rw [Bool.and_eq_true, List.all_eq_true] at h
    exact ⟨fun c hc => of_decide_eq_true (h.2 c hc), of_decide_eq_true h.1⟩
  · exact goodB_of
def spIsText : Sp := fun vs H Q _ => ∃ l : List Nat, vs = [.str (S l)] ∧ l.length ≤ 1000 ∧ ∀ H', Ext H H' → Q (.bl (goodB l)) H'
def spIsInt : Sp := fun vs H Q _ => ∃ n : Int, vs = [.int n] ∧ Q (.bl true) H
section
variable {P : Program} {w : World} {K : PySem.W.Frag} {mg : Str → Option Value} {base : Heap}
theorem ok_isChar {f : Addr} {fd : FuncData} (F : Fun K "is_character" "is_character" sIsCharacter f fd) (T : Nms mg) (C : Cst mg) : FnOk P w K mg base CX0 1 f fd ["value"] spIsChar := by
  refine F.ok scIsCharacter (fun vs H Q E h => ?_) (fun cdv A outer s H vs Q E hr h => ?_)
  · obtain ⟨l, rfl, _⟩ := h
    rfl
  · obtain ⟨l, rfl, hl, q⟩ := h
    have nd := scIsCharacter.nd
    obtain ⟨tc, hc⟩ := C.chars
    refine ⟨_, pss_one (ps_ret (pe_and (pe_callB call_isi (by rfl) T.isi (by decide +kernel) (pa_cons (pv 0) (pa_cons (pe_bltn (v := .ty "str") (by rfl) T.str (by decide +kernel) rfl) pa_nil)))
      (pe_and (pe_cmpR op_eq (pe_callB call_len_str (by rfl) T.len PySem.boot_len (pa_cons (pv 0) pa_nil)) pe_int (nomark _)) (pe_one (pe_cmpR op_in_sign (pv 0) (pe_glob (v := .str _) rfl hc ⟨_, rfl⟩) rfl))))), ?_⟩
    refine ⟨_, rfl, _, _, _, _, true, rfl, .ty "str", .base (.str _), kit_ty (by decide +kernel), true, rfl, iteT ?_⟩
    refine ⟨_, rfl, _, rfl, by rw [S_len, sizeLine_eq]; omega, rfl, _, rfl, ?_⟩
    rw [S_len]
    match l, hl, q with
    | [], _, q => exact q
    | [c], _, q =>
      refine iteT ⟨_, rfl, c, _, rfl, rfl, ?_⟩
      rw [chars_S]
      exact q
    | a :: b :: r, _, q =>
      have e : decide (V.int (((a :: b :: r).length : Nat) : Int) = V.int 1) = false := decide_eq_false (by
        intro h; injection h with h; rw [List.length_cons, List.length_cons] at h; omega)
      rw [e]
      exact iteF q
theorem ok_isText {f : Addr} {fd : FuncData} (F : Fun K "is_text" "is_text" sIsText f fd) (T : Nms mg) (C : Cst mg) : FnOk P w K mg base CX0 1 f fd ["value"] spIsText := by
  refine F.ok scIsText (fun vs H Q E h => ?_) (fun cdv A outer s H vs Q E hr h => ?_)
  · obtain ⟨l, rfl, _⟩ := h
    rfl
  · obtain ⟨l, rfl, hl, q⟩ := h
    have nd := scIsText.nd
    obtain ⟨tc, hc⟩ := C.chars
    obtain ⟨tm, hm⟩ := C.most
    refine ⟨_, pss_cons (ps_if (PW.pt (pw_or (pt_not (pt_val (pe_callB call_isi (by rfl) T.isi (by decide +kernel) (pa_cons (pv 0) (pa_cons (pe_bltn (v := .ty "str") (by rfl) T.str (by decide +kernel) rfl) pa_nil)))))
        (pw_or1 (pt_cmpR op_gt (pe_callB call_len_str (by rfl) T.len PySem.boot_len (pa_cons (pv 0) pa_nil)) (pe_glob (v := .int 60) rfl hm ⟨_, rfl⟩) (nomark _))))) (pss_one (ps_ret pe_bl)) pss_nil)
      (pss_one (ps_ret (pe_callB (cr_all rfl) (by rfl) T.all (by decide +kernel) (pa_cons (pe_lc (own := [("character", 1)]) (g := gName 1) (tt := tYes) rfl nd (pi_str (pv 0)) (blkOk_by (N := ["value", "character"]) (sc := defScope sIsText) (by decide +kernel)) (fun _ _ _ _ _ => pg_name (i := 1) nd rfl (Or.inl rfl)) (fun _ _ _ _ _ => pts_nil)
          (fun _ _ _ _ _ => pe_cmpR op_in_sign (pv 1) (pe_glob (v := .str _) rfl hc ⟨_, rfl⟩) rfl)) pa_nil)))), ?_⟩
    refine ⟨_, rfl, _, _, _, _, true, rfl, .ty "str", .base (.str _), kit_ty (by decide +kernel), true, rfl, ?_⟩
    refine iteF ⟨_, rfl, _, rfl, by rw [S_len, sizeLine_eq]; omega, _, _, rfl, rfl, _, rfl, ?_⟩
    rw [S_len]
    by_cases h60 : l.length ≤ 60
    · rw [decide_eq_false (show ¬ ((l.length : Nat) : Int) > 60 by omega)]
      refine iteF ⟨_, rfl, _, rfl, fun D hD => lc_vals (fun c => V.bl (decide (c ∈ CH))) hl hD (fun c H2 acc Nx hc' k2 hacc hal nx => ⟨rfl, _, rfl, c, _, rfl, rfl, acc, hacc, hal, nx _ ?_ (k2.new hD)⟩) fun H2 h2 k2 => ?_⟩
      · rw [chars_S]; exact upd_same
      · refine ⟨D, l.map (fun c => decide (c ∈ CH)), rfl, SqL.of ?_, ?_⟩
        · rw [List.map_map]; exact h2
        · have e : (l.map (fun c => decide (c ∈ CH))).all id = goodB l := by
            unfold goodB
            rw [decide_eq_true h60, Bool.true_and, List.all_map]; rfl
          rw [e]
          exact q H2 k2
    · rw [decide_eq_true (show ((l.length : Nat) : Int) > 60 by omega)]
      refine iteT ?_
      have e : goodB l = false := by unfold goodB; rw [decide_eq_false h60, Bool.false_and]
      rw [e] at q
      exact q H .refl
theorem ok_isInt {f : Addr} {fd : FuncData} (F : Fun K "is_integer" "is_integer" sIsInteger f fd) (T : Nms mg) : FnOk P w K mg base CX0 1 f fd ["value"] spIsInt := by
  refine F.ok scIsInteger (fun vs H Q E h => ?_) (fun cdv A outer s H vs Q E hr h => ?_)
  · obtain ⟨l, rfl, _⟩ := h
    rfl
  · obtain ⟨n, rfl, q⟩ := h
    refine ⟨_, pss_one (ps_ret (pe_and (pe_callB call_isi (by rfl) T.isi (by decide +kernel) (pa_cons (pv 0) (pa_cons (pe_bltn (v := .ty "int") (by rfl) T.int (by decide +kernel) rfl) pa_nil)))
      (pe_one (pe_not (pe_callB call_isi (by rfl) T.isi (by decide +kernel) (pa_cons (pv 0) (pa_cons (pe_bltn (v := .ty "bool") (by rfl) T.bool (by decide +kernel) rfl) pa_nil))))))), ?_⟩
    refine ⟨_, rfl, _, _, _, _, true, rfl, .ty "int", .base (.int n), kit_ty (by decide +kernel), true, rfl, iteT ?_⟩
    exact ⟨_, rfl, _, _, _, _, false, rfl, .ty "bool", .base (.int n), kit_ty (by decide +kernel), false, rfl, q⟩
end
end Pd

set_option maxHeartbeats 4000000
namespace Pd
open PySem PySem.Spec PyProof.Rows L2 SX
def spIsChoice : Sp := fun vs H Q _ => ∃ cs : List Nat, vs = [.str (S cs)] ∧ Stp.ok (.drop cs) ∧ ∀ H', Ext H H' → Q (.bl true) H'
def spIsStep : Sp := fun vs H Q _ => ∃ (p : Addr) (st : Stp), vs = [.ref p] ∧ StpAt H p st ∧ st.ok ∧ ∀ H', Ext H H' → Q (.bl true) H'
theorem StpAt.ty {K : PySem.W.Frag} {H : Hp} {p : Addr} {st : Stp} (h : StpAt H p st) : TyX K H (.ref p) (.type "tuple") := by
  cases st with
  | swap a b =>
    obtain ⟨n, t0, t, u, e, _⟩ := h
    exact .fTuple e
  | low => exact .base (.tup h)
  | drop _ => exact .base (.tup h)
  | lead _ => exact .base (.tup h)
  | once _ =>
    rcases h with h | ⟨o, h⟩
    · exact .base (.tup h)
    · exact .fTuple h
  | cut _ => exact .base (.tup h)
theorem isChr_one {c : Nat} (h : c ∈ CH) : isChr [c] = true := decide_eq_true h
section
variable {P : Program} {w : World} {K : PySem.W.Frag} {mg : Str → Option Value} {base : Heap}
theorem ok_isChoice {f : Addr} {fd : FuncData} (F : Fun K "_is_choice" "_is_choice" sIsChoice f fd) (T : Nms mg) (C : Cst mg) (G : Cl P w K mg base 1 "is_character" spIsChar) : FnOk P w K mg base CX0 2 f fd ["value"] spIsChoice := by
  refine F.ok scIsChoice (fun vs H Q E h => ?_) (fun cdv A outer s H vs Q E hr h => ?_)
  · obtain ⟨l, rfl, _⟩ := h
    rfl
  · obtain ⟨cs, rfl, ⟨h1, h2, h3, h4⟩, q⟩ := h
    have nd := scIsChoice.nd
    obtain ⟨td, hd⟩ := C.drop
    refine ⟨_, pss_cons (ps_if (PW.pt (pw_or (pt_not (pt_val (pe_callB call_isi (by rfl) T.isi (by decide +kernel) (pa_cons (pv 0) (pa_cons (pe_bltn (v := .ty "str") (by rfl) T.str (by decide +kernel) rfl) pa_nil)))))
        (pw_or1 (pt_not (pt_chain op_le op_le pe_int (pe_callB call_len_str (by rfl) T.len PySem.boot_len (pa_cons (pv 0) pa_nil)) (pe_glob (v := .int 10) rfl hd ⟨_, rfl⟩)))))) (pss_one (ps_ret pe_bl)) pss_nil)
      (pss_one (ps_ret (pe_and (pe_cmpR op_eq (pe_lenSetS rfl rfl T.len rfl T.set (pv 0)) (pe_callB call_len_str (by rfl) T.len PySem.boot_len (pa_cons (pv 0) pa_nil)) (nomark _))
        (pe_one (pe_callB (cr_all rfl) (by rfl) T.all (by decide +kernel) (pa_cons (pe_lc (own := [("character", 1)]) (g := gName 1) (tt := tYes) rfl nd (pi_str (pv 0)) (blkOk_by (N := ["value", "character"]) (sc := defScope sIsChoice) (by decide +kernel)) (fun _ _ _ _ _ => pg_name (i := 1) nd rfl (Or.inl rfl)) (fun _ _ _ _ _ => pts_nil)
          (fun _ _ _ _ _ => pe_cl G hr (by decide) rfl (pa_cons (pv 1) pa_nil))) pa_nil)))))), ?_⟩
    refine ⟨_, rfl, _, _, _, _, true, rfl, .ty "str", .base (.str _), kit_ty (by decide +kernel), true, rfl, ?_⟩
    refine iteF ⟨_, rfl, _, rfl, by rw [S_len, sizeLine_eq]; omega, _, _, rfl, rfl, _, rfl, ?_⟩
    rw [S_len, decide_eq_true (show (1 : Int) ≤ (cs.length : Nat) by omega)]
    refine iteT ⟨_, _, rfl, rfl, _, rfl, ?_⟩
    rw [decide_eq_true (show ((cs.length : Nat) : Int) ≤ 10 by omega)]
    refine iteF ?_
    refine ⟨_, rfl, S cs, rfl, ?_, h3, by show cs.length ≤ 1000; omega, _, rfl, _, rfl, by rw [S_len, sizeLine_eq]; omega, rfl, _, rfl, ?_⟩
    · rw [← Array.all_toList, List.all_eq_true]
      exact fun c hc => decide_eq_true (CH_lt c (h4 c hc))
    rw [S_len, decide_eq_true rfl]
    refine iteT ⟨_, rfl, _, rfl, fun D hD => lc_vals (fun c => V.bl (isChr [c])) (by omega) hD (fun c H2 acc Nx hc' k2 hacc hal nx => ⟨rfl, _, rfl, [c], rfl, by simp, acc, hacc, hal, nx _ upd_same (k2.new hD)⟩) fun H2 e2 k2 => ?_⟩
    refine ⟨D, cs.map (fun c => isChr [c]), rfl, SqL.of (by rw [List.map_map]; exact e2), ?_⟩
    have e : (cs.map (fun c => isChr [c])).all id = true := by
      rw [List.all_map, List.all_eq_true]
      exact fun c hc => isChr_one (h4 c hc)
    rw [e]
    exact q H2 k2
theorem ok_isStep {f : Addr} {fd : FuncData} (F : Fun K "is_step" "is_step" sIsStep f fd) (T : Nms mg) (C : Cst mg) (G : Cl P w K mg base 1 "is_character" spIsChar) (G2 : Cl P w K mg base 2 "_is_choice" spIsChoice) (G3 : Cl P w K mg base 1 "is_integer" spIsInt) : FnOk P w K mg base CX0 3 f fd ["value"] spIsStep := by
  refine F.ok scIsStep (fun vs H Q E h => ?_) (fun cdv A outer s H vs Q E hr h => ?_)
  · obtain ⟨p, st, rfl, _⟩ := h
    rfl
  · obtain ⟨p, st, rfl, hst, hok, q⟩ := h
    have nd := scIsStep.nd
    obtain ⟨tc, hc⟩ := C.cut
    refine ⟨_, pss_cons (ps_if (PW.pt (pw_or (pt_not (pt_val (pe_callB call_isi (by rfl) T.isi (by decide +kernel) (pa_cons (pv 0) (pa_cons (pe_bltn (v := .ty "tuple") (by rfl) T.tuple (by decide +kernel) rfl) pa_nil)))))
        (pw_or (pt_cmpR op_eq (pe_callB call_len_seq (by rfl) T.len PySem.boot_len (pa_cons (pv 0) pa_nil)) pe_int (nomark _))
        (pw_or1 (pt_not (pt_val (pe_callB call_isi (by rfl) T.isi (by decide +kernel) (pa_cons (pe_ix ix_tup (pv 0) pe_int (fun _ _ => rfl)) (pa_cons (pe_bltn (v := .ty "str") (by rfl) T.str (by decide +kernel) rfl) pa_nil))))))))) (pss_one (ps_ret pe_bl)) pss_nil)
      (pss_cons (ps_set (i := 1) nd rfl (Or.inl rfl) (pe_ix ix_tup (pv 0) pe_int (fun _ _ => rfl)))
      (pss_cons (ps_if (pt_cmpR op_eq (pv 1) pe_str (nomark _)) (pss_one (ps_ret (pe_cmpR op_eq (pe_callB call_len_seq (by rfl) T.len PySem.boot_len (pa_cons (pv 0) pa_nil)) pe_int (nomark _)))) pss_nil)
      (pss_cons (ps_if (pt_cmpR op_eq (pv 1) pe_str (nomark _)) (pss_one (ps_ret (pe_and (pe_cmpR op_eq (pe_callB call_len_seq (by rfl) T.len PySem.boot_len (pa_cons (pv 0) pa_nil)) pe_int (nomark _))
        (pe_and (pe_cl G hr (by decide) rfl (pa_cons (pe_ix ix_tup (pv 0) pe_int (fun _ _ => rfl)) pa_nil)) (pe_one (pe_cl G hr (by decide) rfl (pa_cons (pe_ix ix_tup (pv 0) pe_int (fun _ _ => rfl)) pa_nil))))))) pss_nil)
      (pss_cons (ps_if (pt_cmpR op_ne (pe_callB call_len_seq (by rfl) T.len PySem.boot_len (pa_cons (pv 0) pa_nil)) pe_int (nomark _)) (pss_one (ps_ret pe_bl)) pss_nil)
      (pss_cons (ps_if (pt_cmpR op_eq (pv 1) pe_str (nomark _)) (pss_one (ps_ret (pe_cl G2 hr (by decide) rfl (pa_cons (pe_ix ix_tup (pv 0) pe_int (fun _ _ => rfl)) pa_nil)))) pss_nil)
      (pss_cons (ps_if (PW.pt (pw_or (pt_cmpR op_eq (pv 1) pe_str (nomark _)) (pw_or1 (pt_cmpR op_eq (pv 1) pe_str (nomark _))))) (pss_one (ps_ret (pe_cl G hr (by decide) rfl (pa_cons (pe_ix ix_tup (pv 0) pe_int (fun _ _ => rfl)) pa_nil)))) pss_nil)
      (pss_one (ps_ret (pe_and (pe_cmpR op_eq (pv 1) pe_str (nomark _)) (pe_and (pe_cl G3 hr (by decide) rfl (pa_cons (pe_ix ix_tup (pv 0) pe_int (fun _ _ => rfl)) pa_nil))
        (pe_one (pe_chain op_le op_le pe_int (pe_ix ix_tup (pv 0) pe_int (fun _ _ => rfl)) (pe_glob (v := .int 9) rfl hc ⟨_, rfl⟩))))))))))))), ?_⟩
    have hs : ∀ {K : PySem.W.Frag}, SqT K H p (stpVals st) := hst.seq
    have e0 : decide (V.int (((stpVals st).length : Nat) : Int) = V.int 0) = false := by cases st <;> rfl
    refine ⟨_, rfl, _, _, _, _, true, rfl, .ty "tuple", hst.ty, kit_ty (by decide +kernel), true, rfl, ?_⟩
    refine iteF ⟨_, rfl, p, _, rfl, .inr hs, rfl, _, rfl, ?_⟩
    rw [e0]
    refine iteF ⟨_, rfl, p, _, 0, _, rfl, rfl, hs, word_at st, _, _, _, _, true, rfl, .ty "str", .base (.str _), kit_ty (by decide +kernel), true, rfl, ?_⟩
    refine iteF ⟨_, rfl, p, _, 0, _, rfl, rfl, hs, word_at st, ?_⟩
    cases st with
    | low =>
      refine ⟨_, rfl, rfl, _, rfl, ite2 (fun _ => ?_) (fun h => absurd (decide_eq_true rfl) h)⟩
      exact ⟨_, rfl, p, _, rfl, .inr hs, rfl, q H .refl⟩
    | swap a b =>
      refine ⟨_, rfl, rfl, _, rfl, ite2 (fun h => absurd (show V.str "swap" = V.str "lower" from of_decide_eq_true h) (by decide +kernel)) (fun _ => ?_)⟩
      refine ⟨_, rfl, rfl, _, rfl, ite2 (fun _ => ?_) (fun h => absurd (decide_eq_true rfl) h)⟩
      refine ⟨_, rfl, p, _, rfl, .inr hs, rfl, true, rfl, iteT ⟨_, rfl, p, _, 1, .str (sg a), rfl, rfl, hs, rfl, [a], rfl, by simp, true, ?_, iteT ⟨_, rfl, p, _, 2, .str (sg b), rfl, rfl, hs, rfl, [b], rfl, by simp, ?_⟩⟩⟩
      · rw [isChr_one hok.1]
      · rw [isChr_one hok.2]; exact q H .refl
    | drop cs =>
      refine ⟨_, rfl, rfl, _, rfl, ite2 (fun h => absurd (show V.str "drop" = V.str "lower" from of_decide_eq_true h) (by decide +kernel)) (fun _ => ?_)⟩
      refine ⟨_, rfl, rfl, _, rfl, ite2 (fun h => absurd (show V.str "drop" = V.str "swap" from of_decide_eq_true h) (by decide +kernel)) (fun _ => ?_)⟩
      refine ⟨_, rfl, p, _, rfl, .inr hs, rfl, _, rfl, iteF ?_⟩
      refine ⟨_, rfl, rfl, _, rfl, ite2 (fun _ => ?_) (fun h => absurd (decide_eq_true rfl) h)⟩
      exact ⟨_, rfl, p, _, 1, .str (S cs), rfl, rfl, hs, rfl, cs, rfl, hok, q⟩
    | lead a =>
      refine ⟨_, rfl, rfl, _, rfl, ite2 (fun h => absurd (show V.str "lead" = V.str "lower" from of_decide_eq_true h) (by decide +kernel)) (fun _ => ?_)⟩
      refine ⟨_, rfl, rfl, _, rfl, ite2 (fun h => absurd (show V.str "lead" = V.str "swap" from of_decide_eq_true h) (by decide +kernel)) (fun _ => ?_)⟩
      refine ⟨_, rfl, p, _, rfl, .inr hs, rfl, _, rfl, iteF ?_⟩
      refine ⟨_, rfl, rfl, _, rfl, ite2 (fun h => absurd (show V.str "lead" = V.str "drop" from of_decide_eq_true h) (by decide +kernel)) (fun _ => ?_)⟩
      refine ⟨_, rfl, rfl, _, rfl, iteT ?_⟩
      refine ⟨_, rfl, p, _, 1, .str (sg a), rfl, rfl, hs, rfl, [a], rfl, by simp, ?_⟩
      rw [isChr_one hok]; exact q H .refl
    | once a =>
      refine ⟨_, rfl, rfl, _, rfl, ite2 (fun h => absurd (show V.str "once" = V.str "lower" from of_decide_eq_true h) (by decide +kernel)) (fun _ => ?_)⟩
      refine ⟨_, rfl, rfl, _, rfl, ite2 (fun h => absurd (show V.str "once" = V.str "swap" from of_decide_eq_true h) (by decide +kernel)) (fun _ => ?_)⟩
      refine ⟨_, rfl, p, _, rfl, .inr hs, rfl, _, rfl, iteF ?_⟩
      refine ⟨_, rfl, rfl, _, rfl, ite2 (fun h => absurd (show V.str "once" = V.str "drop" from of_decide_eq_true h) (by decide +kernel)) (fun _ => ?_)⟩
      refine ⟨_, rfl, rfl, _, rfl, ite2 (fun h => absurd (show V.str "once" = V.str "lead" from of_decide_eq_true h) (by decide +kernel)) (fun _ => ?_)⟩
      refine ⟨_, rfl, rfl, _, rfl, iteT ?_⟩
      refine ⟨_, rfl, p, _, 1, .str (sg a), rfl, rfl, hs, rfl, [a], rfl, by simp, ?_⟩
      rw [isChr_one hok]; exact q H .refl
    | cut n =>
      refine ⟨_, rfl, rfl, _, rfl, ite2 (fun h => absurd (show V.str "cut" = V.str "lower" from of_decide_eq_true h) (by decide +kernel)) (fun _ => ?_)⟩
      refine ⟨_, rfl, rfl, _, rfl, ite2 (fun h => absurd (show V.str "cut" = V.str "swap" from of_decide_eq_true h) (by decide +kernel)) (fun _ => ?_)⟩
      refine ⟨_, rfl, p, _, rfl, .inr hs, rfl, _, rfl, iteF ?_⟩
      refine ⟨_, rfl, rfl, _, rfl, ite2 (fun h => absurd (show V.str "cut" = V.str "drop" from of_decide_eq_true h) (by decide +kernel)) (fun _ => ?_)⟩
      refine ⟨_, rfl, rfl, _, rfl, ite2 (fun h => absurd (show V.str "cut" = V.str "lead" from of_decide_eq_true h) (by decide +kernel)) (fun _ => ?_)⟩
      refine ⟨_, rfl, rfl, _, rfl, ite2 (fun h => absurd (show V.str "cut" = V.str "once" from of_decide_eq_true h) (by decide +kernel)) (fun _ => ?_)⟩
      refine ⟨_, rfl, rfl, true, rfl, iteT ⟨_, rfl, p, _, 1, .int (n : Nat), rfl, rfl, hs, rfl, _, rfl, true, rfl, iteT ?_⟩⟩
      have e1 : decide ((1 : Int) ≤ (n : Nat)) = true := decide_eq_true (by have := hok.1; omega)
      have e2 : decide (((n : Nat) : Int) ≤ 9) = true := decide_eq_true (by have := hok.2; omega)
      refine ⟨_, rfl, p, _, 1, .int (n : Nat), rfl, rfl, hs, rfl, _, _, rfl, rfl, true, ?_, iteT ⟨_, _, rfl, rfl, ?_⟩⟩
      · exact congrArg V.bl e1
      · show Q (V.bl (decide (((n : Nat) : Int) ≤ 9))) H
        rw [e2]; exact q H .refl
end
end Pd

set_option maxHeartbeats 4000000
namespace Pd
open PySem PySem.Spec PyProof.Rows L2 SX
/-! ### text.replace(step[1], step[2]), step any name of the def -/
theorem item_rawV {X : Cx} {pins : List (Addr × Obj)} {σ : L2.St} {H : Hp} {s : Shared} {i : Nat} {x : Str} {p : Addr} {its : Array Value} {k : Int} {j : Nat} {w : Value} {p1 cp pos : Pos} {Q : Value → Shared → Prop} (hN : X.N[i]? = some x)
    (hv : Vis X.env.scope x) (I : Inv X pins σ H s) (hσ : σ[i]? = some (some (.ref p))) (ht : ∀ s', Inv X pins σ H s' → s'.heap.IsTuple p its) (h0 : 0 ≤ k) (h1 : k < its.size) (hz : its.size ≤ 1000) (hw : its[k.toNat]? = some w) (fin : ∀ s', Inv X pins σ H s' → Q w s')
    (hs : PlainIx (.Constant (.int k) j cp)) (hd : (x == ("__debug__" : Str)) = false := by decide) (hcd : (x == ("__classdict__" : Str)) = false := by decide) :
    wpAny (model X.prog X.w) X.A (eval (.Subscript (.Name x p1) (.Constant (.int k) j cp) pos) X.env) Q X.xe s := by
  refine Subscript_ (thn ((pe_var (pos := p1) hN hv hd hcd).run pins s σ H (fun v H1 => v = .ref p ∧ H1 = H) I ⟨.ref p, hσ, rfl, rfl⟩) ?_)
  rintro u s1 ⟨v, H1, I1, r1, e1, e2⟩
  subst e1 e2
  obtain rfl : u = Value.ref p := r1
  refine wpAny_Constant_int ?_
  have I2 := I1.tok (s1.toks + 1)
  exact subscriptTail_builtinR (x := w) (ht _ I2).typeIs slot_tuple_getitem.lookup
    (getItem_tuple (j := k.toNat) (Q := fun r s' => r = w ∧ Q r s') (ht _ I2) (by omega) (by omega) (by rw [seqIndex_of h0 h1]) hw ⟨rfl, fin _ I2⟩) (hs _ _)
/-- no token is booked, by what K tells of the statics -/
theorem nb_of {K : PySem.W.Frag} {mg : Str → Option Value} {base : Heap} (M : L2.Mod K mg base) (z : PySem.W.nsIn K cStatics sharingNotToldKey = some none) : NoneBooked base := by
  obtain ⟨mc, hn, _⟩ := M.nolimit
  refine ⟨mc, hn, ?_⟩
  obtain ⟨o, es, ep, e1, e2, _, e3⟩ := hn
  rw [← e3]
  unfold PySem.W.nsIn at z
  cases hl : K.lookup cStatics with
  | none => rw [hl] at z; cases z
  | some ob =>
    have e4 := M.kin _ _ hl
    rw [e1] at e4
    injection e4 with e4
    subst e4
    obtain ⟨cls, dict, data, sl⟩ := o
    replace e2 : data = .dict es ep := e2
    subst e2
    rw [hl] at z
    cases hf : es.toList.find? (·.key.isStr sharingNotToldKey) with
    | some en => simp [hf] at z
    | none =>
      show nsFind es sharingNotToldKey = none
      unfold nsFind findBy
      rw [← Array.find?_toList, hf]
      rfl
theorem pe_replV {X : Cx} {i : Nat} {kx : Str} {o : Expr} {to : TE} {j0 j1 : Nat} {p2 p3 c0 c1 q0 q1 apos pos : Pos} (nb : PySem.W.nsIn X.K cStatics sharingNotToldKey = some none) (ho : PE X o to) (hN : X.N[i]? = some kx) (hv : Vis X.env.scope kx) (hd : (kx == ("__debug__" : Str)) = false := by decide)
    (hcd : (kx == ("__classdict__" : Str)) = false := by decide)
    (hst : starEach [.Subscript (.Name kx p2) (.Constant (.int 1) j0 c0) q0, .Subscript (.Name kx p3) (.Constant (.int 2) j1 c1) q1] X.env =
      [(false, eval (.Subscript (.Name kx p2) (.Constant (.int 1) j0 c0) q0) X.env), (false, eval (.Subscript (.Name kx p3) (.Constant (.int 2) j1 c1) q1) X.env)] := by rfl)
    (hbase : attributeBase o "replace" X.env (eval o X.env) = eval o X.env := by rfl) (hline : (apos.endLine == pos.line) = true := by rfl) :
    PE X (.Call (.Attribute o "replace" apos) [.Subscript (.Name kx p2) (.Constant (.int 1) j0 c0) q0, .Subscript (.Name kx p3) (.Constant (.int 2) j1 c1) q1] [] pos) (tRepl to i) := by
  constructor
  intro pins s σ H Q I h
  refine PySem.Call_method2 hbase hst hline (thn (ho.run pins s σ H _ I h) ?_)
  rintro v s1 ⟨y, H1, I1, r1, x, p, a, b, rfl, hσ, ⟨n, t0, t, u, hp, ht, hu, htu⟩, hz, q⟩
  obtain ⟨tx, rfl⟩ := r1
  have tup : ∀ s', Inv X pins σ H1 s' → s'.heap.IsTuple p #[.str "swap" t0, .str a t, .str b u] := fun s' I' => ⟨_, (I'.hok p _ hp).1, rfl, n, rfl⟩
  refine ⟨"str", _, F.plainAttrs_str, F.slot_str_replace, F.type_str_replace, typeIs_str _ _ _, (fun _ e => nomatch e), Calls.callWith_builtin rfl (Calls.evalArgs_plain (Calls.spliced_cons ?_))⟩
  refine item_rawV hN hv I1 hσ tup (by decide) (by show (1:Int) < ((3:Nat):Int); decide) (by show 3 ≤ 1000; decide) rfl (fun s2 I2 => ?_) (fun _ _ => rfl) hd hcd
  refine Calls.spliced_cons (item_rawV hN hv I2 hσ tup (by decide) (by show (2:Int) < ((3:Nat):Int); decide) (by show 3 ≤ 1000; decide) rfl (fun s3 I3 => Calls.spliced_nil ?_) (fun _ _ => rfl) hd hcd)
  exact replace_all (unbooked (nb_of I3.ok.mod nb) I3) ht hu htu hz fun t' k => ⟨.str (Txt.replace x a b), H1, I3.tok k, ⟨t', rfl⟩, q⟩
/-! ### the texts' methods, on lists of signs -/
theorem good_lt {l : List Nat} (h : Good l) : l.all (· < 128) = true := List.all_eq_true.mpr fun c hc => decide_eq_true (CH_lt c (h.1 c hc))
theorem lower_mk {l : List Nat} (h : Good l) : Txt.lower (S l) = S (mk .low l) := lower_S (good_lt h)
theorem replL_one (a b : Nat) : ∀ l : List Nat, PySem.StrLaws.replL [a] [b] l = l.map (swapC a b)
  | [] => PySem.StrLaws.replL_nil
  | c :: r => by
    have ih := replL_one a b r
    by_cases h : c = a
    · rw [PySem.StrLaws.replL_hit (by simp) (by simp [h])]
      show [b] ++ PySem.StrLaws.replL [a] [b] r = swapC a b c :: r.map (swapC a b)
      rw [ih]
      have e : swapC a b c = b := by unfold swapC; rw [if_pos h]
      rw [e]; rfl
    · rw [PySem.StrLaws.replL_miss (by simp [h]), ih]
      have e : swapC a b c = c := by unfold swapC; rw [if_neg h]
      rw [List.map_cons, e]
theorem replace_mk (a b : Nat) (l : List Nat) : Txt.replace (S l) (sg a) (sg b) = S (mk (.swap a b) l) := by
  refine TL.ext_tl ?_
  have e := PySem.StrLaws.replace_list (x := S l) (y := sg a) (z := sg b) (Nat.le_refl 1)
  refine e.trans ?_
  exact replL_one a b l
theorem drop_takeWhile (p : Nat → Bool) : ∀ l : List Nat, l.drop (l.takeWhile p).length = l.dropWhile p
  | [] => rfl
  | c :: r => by
    by_cases h : p c = true
    · rw [List.takeWhile_cons_of_pos h, List.dropWhile_cons_of_pos h, List.length_cons, List.drop_succ_cons]; exact drop_takeWhile p r
    · rw [List.takeWhile_cons_of_neg h, List.dropWhile_cons_of_neg h]; rfl
theorem lstrip_mk (a : Nat) (l : List Nat) : Txt.lstripChars (S l) (sg a) = S (mk (.lead a) l) := by
  refine TL.ext_tl ?_
  have e : Txt.lstripChars (S l) (sg a) = Builtin.Str.strSub (S l) (stripLo (sg a).cps.contains true (S l)) (stripHi (sg a).cps.contains false (S l) (stripLo (sg a).cps.contains true (S l))) := stripBy_eq _ _ _ _
  have hc : (sg a).cps.contains = fun c => decide (c = a) := by
    funext c
    show (#[a] : Array Nat).contains c = _
    by_cases h : c = a
    · simp [h]
    · simp [h]
  rw [e, TL.tl_strSub, hc]
  show (l.drop (l.takeWhile fun c => decide (c = a)).length).take ((S l).length - (l.takeWhile fun c => decide (c = a)).length) = l.dropWhile (fun c => decide (c = a))
  rw [S_len, List.take_of_length_le (by rw [List.length_drop]; omega), drop_takeWhile]
theorem onceN_filter (a : Nat) (l : List Nat) : ∀ n : Nat, onceN a l n = ((List.range n).filter (keepAt a l)).map (fun i => l.getD i 0)
  | 0 => rfl
  | n + 1 => by
    rw [onceN, onceN_filter a l n, List.range_succ, List.filter_append, List.map_append]
    congr 1
    by_cases h : keepAt a l n = true
    · simp [h]
    · simp [h]
end Pd

set_option maxHeartbeats 4000000
namespace Pd
open PySem PySem.Spec PyProof.Rows L2 SX
def spOnce : Sp := fun vs H Q _ => ∃ (l : List Nat) (a : Nat), vs = [.str (S l), .str (sg a)] ∧ Good l ∧ ∀ H', Ext H H' → Q (.str (S (onceL a l))) H'
theorem S_item {l : List Nat} {i : Nat} (hi : i < l.length) : atI (S l).cps.toList (i : Int) = some (l.getD i 0) := by
  refine atI_nat ?_
  show l[i]? = _
  rw [List.getElem?_eq_getElem hi]
  simp only [List.getD, List.getElem?_eq_getElem hi, Option.getD_some]
section
variable {P : Program} {w : World} {K : PySem.W.Frag} {mg : Str → Option Value} {base : Heap}
theorem ok_once {f : Addr} {fd : FuncData} (F : Fun K "_once" "_once" sOnce f fd) (T : Nms mg) : FnOk P w K mg base CX0 1 f fd ["text", "single"] spOnce := by
  refine F.ok scOnce (fun vs H Q E h => ?_) (fun cdv A outer s H vs Q E hr h => ?_)
  · obtain ⟨l, a, rfl, _⟩ := h
    rfl
  · obtain ⟨l, a, rfl, hG, q⟩ := h
    have nd := scOnce.nd
    refine ⟨_, pss_cons (ps_setLc (i := 2) (own := [("at", 3)]) (g := gName 3) rfl nd rfl rfl (sw_true rfl rfl rfl (by decide +kernel)) (pi_range1 rfl T.range (pa_cons (pe_callB call_len_str (by rfl) T.len PySem.boot_len (pa_cons (pv 0) pa_nil)) pa_nil))
        (blkOk_by (N := ["text", "single", "kept", "at"]) (sc := defScope sOnce) (by decide +kernel)) (fun _ _ _ _ _ => pg_name (i := 3) nd rfl (Or.inl rfl))
        (fun _ _ _ _ _ => pts_one (PW.pt (pw_or (pt_cmpR op_ne (pe_ix ix_str (pv 0) (pv 3) (fun _ _ => rfl)) (pv 1) (nomark _)) (pw_or (pt_cmpR op_eq (pv 3) pe_int (nomark _)) (pw_or1 (pt_cmpR op_ne (pe_ix ix_str (pv 0) (pe_op op_sub (pv 3) pe_int) (fun _ _ => rfl)) (pv 1) (nomark _)))))))
        (fun _ _ _ _ _ => pv 3))
      (pss_one (ps_ret (pe_join pe_str (pe_lc (own := [("at", 3)]) (g := gName 3) (tt := tYes) rfl nd (pi_list (pv 2)) (blkOk_by (N := ["text", "single", "kept", "at"]) (sc := defScope sOnce) (by decide +kernel)) (fun _ _ _ _ _ => pg_name (i := 3) nd rfl (Or.inl rfl)) (fun _ _ _ _ _ => pts_nil)
        (fun _ _ _ _ _ => pe_ix ix_str (pv 0) (pv 3) (fun _ _ => rfl)))))), ?_⟩
    have hl := hG.2
    refine ⟨_, rfl, _, rfl, by rw [S_len, sizeLine_eq]; omega, _, rfl, by rw [S_len]; omega, by rw [S_len]; omega, fun D hD => ?_⟩
    rw [show (((S l).length : Nat) : Int).toNat = l.length by rw [S_len]; omega]
    have ne2 : ∀ {x y : Nat}, V.str (sg x) = V.str (sg y) ↔ x = y := fun {x y} => sg_eq
    refine lc_it (walk_range (lo := 0) (n := l.length)) (fun i H' => H' D = some (.lst (((List.range i).filter (keepAt a l)).map fun k => V.int (k : Nat))) ∧ Ext H H') ⟨upd_same, Ext.refl.new hD⟩ (fun _ _ _ _ => trivial) ?_ ?_
    · rintro i x H2 H3 hi ⟨h2, k2⟩ ⟨rfl, rfl⟩
      have e0 : (0 : Int) + (i : Nat) = (i : Nat) := by omega
      show gName 3 (V.int (0 + (i : Nat))) _ _ _
      rw [e0]
      refine ⟨rfl, _, rfl, _, rfl, _, _, _, rfl, rfl, by rw [S_len, sizeLine_eq]; omega, S_item hi, _, rfl, rfl, _, rfl, ?_⟩
      have hlen : (((List.range i).filter (keepAt a l)).map fun k => V.int (k : Nat)).length < sizeLine := by
        rw [List.length_map, sizeLine_eq]
        have := List.length_filter_le (keepAt a l) (List.range i)
        rw [List.length_range] at this
        omega
      have yes : keepAt a l i = true → ∃ v, ([some (V.str (S l)), some (V.str (sg a)), none, some (V.int (i : Nat))] : L2.St)[3]? = some (some v) ∧ ∃ acc, H3 D = some (.lst acc) ∧ acc.length < sizeLine ∧
          ((L2.upd H3 D (.lst (acc ++ [v]))) D = some (.lst (((List.range (i + 1)).filter (keepAt a l)).map fun k => V.int (k : Nat))) ∧ Ext H (L2.upd H3 D (.lst (acc ++ [v])))) := fun hk => by
        refine ⟨_, rfl, _, h2, hlen, ?_, k2.new hD⟩
        rw [upd_same, List.range_succ, List.filter_append, List.map_append]
        simp [hk]
      by_cases h1 : l.getD i 0 = a
      · have e1 : (!decide (V.str (sg (l.getD i 0)) = V.str (sg a))) = false := by rw [decide_eq_true (ne2.mpr h1)]; rfl
        show if (!decide (V.str (sg (l.getD i 0)) = V.str (sg a))) = true then _ else _
        rw [e1]
        refine iteF ⟨_, rfl, rfl, _, rfl, ?_⟩
        by_cases h0 : i = 0
        · subst h0
          refine iteT (iteT (yes ?_))
          simp [keepAt]
        · rw [decide_eq_false (show ¬ V.int ((i : Nat) : Int) = V.int 0 from fun h => h0 (by injection h with h; omega))]
          have e3 : ((i : Nat) : Int) - 1 = ((i - 1 : Nat) : Int) := by omega
          refine iteF ⟨_, rfl, _, rfl, _, _, rfl, rfl, _, _, l.getD (i - 1) 0, rfl, rfl, by rw [S_len, sizeLine_eq]; omega, by rw [e3]; exact S_item (by omega), _, rfl, rfl, _, rfl, ?_⟩
          by_cases h4 : l.getD (i - 1) 0 = a
          · have e4 : (!decide (V.str (sg (l.getD (i - 1) 0)) = V.str (sg a))) = false := by rw [decide_eq_true (ne2.mpr h4)]; rfl
            show if (!decide (V.str (sg (l.getD (i - 1) 0)) = V.str (sg a))) = true then _ else _
            rw [e4]
            refine iteF ⟨?_, k2⟩
            have hk : keepAt a l i = false := by
              simp only [keepAt, Bool.or_eq_false_iff, decide_eq_false_iff_not, Decidable.not_not]
              exact ⟨⟨h1, h0⟩, h4⟩
            rw [h2, List.range_succ, List.filter_append]
            simp [hk]
          · have e4 : (!decide (V.str (sg (l.getD (i - 1) 0)) = V.str (sg a))) = true := by rw [decide_eq_false (fun h => h4 (ne2.mp h))]; rfl
            show if (!decide (V.str (sg (l.getD (i - 1) 0)) = V.str (sg a))) = true then _ else _
            rw [e4]
            refine iteT (yes ?_)
            simp only [keepAt, Bool.or_eq_true, decide_eq_true_eq]
            exact .inr h4
      · have e1 : (!decide (V.str (sg (l.getD i 0)) = V.str (sg a))) = true := by rw [decide_eq_false (fun h => h1 (ne2.mp h))]; rfl
        show if (!decide (V.str (sg (l.getD i 0)) = V.str (sg a))) = true then _ else _
        rw [e1]
        refine iteT (iteT (yes ?_))
        simp only [keepAt, Bool.or_eq_true, decide_eq_true_eq]
        exact .inl (.inl h1)
    · rintro H2 ⟨h2, k2⟩
      generalize hks : (List.range l.length).filter (keepAt a l) = ks at h2
      have hkl : ∀ k ∈ ks, k < l.length := fun k hk => by
        rw [← hks] at hk
        exact List.mem_range.mp (List.mem_filter.mp hk).1
      have hkn : ks.length ≤ l.length := by
        rw [← hks]
        have := List.length_filter_le (keepAt a l) (List.range l.length)
        rw [List.length_range] at this
        exact this
      refine ⟨⟨_, rfl⟩, _, rfl, D, rfl, ⟨_, SqL.of h2⟩, fun D2 hD2 => ?_⟩
      refine lc_it (walk_list (xs := ks.map fun k => V.int (k : Nat))) (fun i H' => H' D2 = some (.lst (((((ks.take i).map fun k => l.getD k 0)).map sg).map V.str)) ∧ Ext H2 H') ⟨upd_same, Ext.refl.new hD2⟩ (fun i H' _ p => SqL.of (p.2 D _ h2)) ?_ ?_
      · rintro i x H3 H4 hi ⟨h3, k3⟩ ⟨rfl, hx⟩
        rw [List.length_map] at hi
        rw [List.getElem?_map, List.getElem?_eq_getElem hi] at hx
        obtain rfl : V.int ((ks[i] : Nat) : Int) = x := Option.some.inj hx
        have hk : ks[i] < l.length := hkl _ (List.getElem_mem hi)
        refine ⟨rfl, _, rfl, _, rfl, _, _, _, rfl, rfl, by rw [S_len, sizeLine_eq]; omega, S_item hk, _, h3, ?_, ?_, k3.new hD2⟩
        · rw [List.length_map, List.length_map, List.length_map, sizeLine_eq]
          have := List.length_take_le' i ks
          omega
        · rw [upd_same, List.take_succ, List.getElem?_eq_getElem hi, Option.toList_some, List.map_append, List.map_append, List.map_append]
          rfl
      · rintro H3 ⟨h3, k3⟩
        rw [List.length_map, List.take_length] at h3
        refine join_ask h3 (by rw [List.length_map]; omega) ?_
        have e : (ks.map fun k => l.getD k 0) = onceL a l := by
          show _ = onceN a l l.length
          rw [onceN_filter, hks]
        rw [e]
        exact q H3 (k2.trans k3)
end
end Pd

set_option maxHeartbeats 4000000
namespace Pd
open PySem PySem.Spec PyProof.Rows L2 SX
/-! ### rows of steps -/
inductive Al (H : Hp) : List Addr → List Stp → Prop where
  | nil : Al H [] []
  | cons {p : Addr} {st : Stp} {ps : List Addr} {sts : List Stp} (h : StpAt H p st) (ok : st.ok) (r : Al H ps sts) : Al H (p :: ps) (st :: sts)
theorem Al.same {H H' : Hp} : ∀ {ps : List Addr} {sts : List Stp}, Al H ps sts → (∀ p ∈ ps, ∀ o, H p = some o → H' p = some o) → Al H' ps sts
  | _, _, .nil, _ => .nil
  | _, _, .cons h ok r, k => .cons (h.same fun o x => k _ (List.mem_cons_self ..) o x) ok (r.same fun p hp => k p (List.mem_cons_of_mem _ hp))
theorem Al.len {H : Hp} : ∀ {ps : List Addr} {sts : List Stp}, Al H ps sts → ps.length = sts.length
  | _, _, .nil => rfl
  | _, _, .cons _ _ r => congrArg (· + 1) r.len
theorem Al.get {H : Hp} : ∀ {ps : List Addr} {sts : List Stp} {i : Nat} {p : Addr}, Al H ps sts → ps[i]? = some p → ∃ st, sts[i]? = some st ∧ StpAt H p st ∧ st.ok
  | _, _, _, _, .nil, e => by simp at e
  | _, _, 0, _, .cons h ok r, e => by
    simp at e; subst e
    exact ⟨_, by simp, h, ok⟩
  | _, _, i + 1, _, .cons h ok r, e => by
    obtain ⟨st, e1, h1⟩ := r.get (i := i) (by simpa using e)
    exact ⟨st, by simpa using e1, h1⟩
theorem Al.mem {H : Hp} : ∀ {ps : List Addr} {sts : List Stp} {p : Addr}, Al H ps sts → p ∈ ps → ∃ st, StpAt H p st
  | _, _, _, .nil, h => nomatch h
  | _, _, _, .cons h ok r, hp => by
    rcases List.mem_cons.mp hp with rfl | hp
    · exact ⟨_, h⟩
    · exact r.mem hp
theorem Al.ext {H H' : Hp} {ps : List Addr} {sts : List Stp} (h : Al H ps sts) (k : Ext H H') : Al H' ps sts := h.same fun p _ o x => k p o x
theorem Al.kp {H H' : Hp} {j : Addr} {ps : List Addr} {sts : List Stp} {xs : List V} (h : Al H ps sts) (k : Kp j H H') (hj : H j = some (.lst xs)) : Al H' ps sts := h.same fun p hp o x => by
  obtain ⟨st, hst⟩ := h.mem hp
  obtain ⟨o', x', ne⟩ := hst.some
  refine k p o ?_ x
  rintro rfl
  rw [hj] at x'; cases x'
  exact ne _ rfl
theorem sqT_keep {K : PySem.W.Frag} {H H' : Hp} {a : Addr} {xs : List V} (h : SqT K H a xs) (k : ∀ o, H a = some o → H' a = some o) : SqT K H' a xs := by
  rcases h with (h | ⟨o, h⟩) | h
  · exact .inl (.inl (k _ h))
  · exact .inl (.inr ⟨o, k _ h⟩)
  · exact .inr h
theorem sqT_ty {K : PySem.W.Frag} {H : Hp} {a : Addr} {xs : List V} (h : SqT K H a xs) : TyX K H (.ref a) (.type "tuple") := by
  rcases h with (h | ⟨o, h⟩) | ⟨o, its, n, h, c, _⟩
  · exact .base (.tup h)
  · exact .fTuple h
  · exact .kTuple h c
theorem sqT_noLst {K : PySem.W.Frag} {H H' : Hp} {j a : Addr} {xs ys : List V} (h : SqT K H a xs) (k : Kp j H H') (hj : H j = some (.lst ys)) : SqT K H' a xs := by
  rcases h with (h | ⟨o, h⟩) | h
  · exact .inl (.inl (k a _ (by rintro rfl; rw [h] at hj; cases hj) h))
  · exact .inl (.inr ⟨o, k a _ (by rintro rfl; rw [h] at hj; cases hj) h⟩)
  · exact .inr h
def RowAt (K : PySem.W.Frag) (H : Hp) (r : Addr) (sts : List Stp) : Prop := ∃ ps : List Addr, SqT K H r (ps.map V.ref) ∧ Al H ps sts
section
variable {K : PySem.W.Frag}
theorem RowAt.ext {H H' : Hp} {r : Addr} {sts : List Stp} (h : RowAt K H r sts) (k : Ext H H') : RowAt K H' r sts := by
  obtain ⟨ps, e, a⟩ := h
  exact ⟨ps, sqT_keep e (fun o x => k r o x), a.ext k⟩
theorem RowAt.kp {H H' : Hp} {j r : Addr} {sts : List Stp} {xs : List V} (h : RowAt K H r sts) (k : Kp j H H') (hj : H j = some (.lst xs)) : RowAt K H' r sts := by
  obtain ⟨ps, e, a⟩ := h
  exact ⟨ps, sqT_noLst e k hj, a.kp k hj⟩
end
def mks (sts : List Stp) (l : List Nat) : List Nat := sts.foldl (fun l st => mk st l) l
theorem mks_good {l : List Nat} : ∀ {sts : List Stp}, (∀ st ∈ sts, st.ok) → Good l → Good (mks sts l) := by
  intro sts
  induction sts generalizing l with
  | nil => exact fun _ h => h
  | cons st sts ih => exact fun h g => ih (fun s hs => h s (List.mem_cons_of_mem _ hs)) (mk_good (h st (List.mem_cons_self ..)) g)
theorem Al.ok {H : Hp} : ∀ {ps : List Addr} {sts : List Stp}, Al H ps sts → ∀ st ∈ sts, st.ok
  | _, _, .nil, _, h => nomatch h
  | _, _, .cons _ ok r, st, h => by
    rcases List.mem_cons.mp h with rfl | h
    · exact ok
    · exact r.ok st h
theorem mks_take {sts : List Stp} {i : Nat} {st : Stp} (l : List Nat) (h : sts[i]? = some st) : mks (sts.take (i + 1)) l = mk st (mks (sts.take i) l) := by
  rw [List.take_succ, h]
  show ((sts.take i) ++ [st]).foldl (fun l st => mk st l) l = _
  rw [List.foldl_append]
  rfl
def spMadeSteps (K : PySem.W.Frag) : Sp := fun vs H Q _ => ∃ (r : Addr) (sts : List Stp) (l : List Nat), vs = [.ref r, .str (S l)] ∧ RowAt K H r sts ∧ Good l ∧ ∀ H', Ext H H' → Q (.str (S (mks sts l))) H'
section
variable {P : Program} {w : World} {K : PySem.W.Frag} {mg : Str → Option Value} {base : Heap}
theorem ok_madeByStep {f : Addr} {fd : FuncData} (F : Fun K "made_by_step" "made_by_step" sMadeByStep f fd) (T : Nms mg) (nb : PySem.W.nsIn K cStatics sharingNotToldKey = some none) (G : Cl P w K mg base 1 "_once" spOnce) : FnOk P w K mg base CX0 2 f fd ["step", "text"] spMade := by
  refine F.ok scMadeByStep (fun vs H Q E h => ?_) (fun cdv A outer s H vs Q E hr h => ?_)
  · obtain ⟨p, st, l, rfl, _⟩ := h
    rfl
  · obtain ⟨p, st, l, rfl, hst, hok, hG, q⟩ := h
    have nd := scMadeByStep.nd
    refine ⟨_, pss_cons (ps_set (i := 2) nd rfl (Or.inl rfl) (pe_ix ix_tup (pv 0) pe_int (fun _ _ => rfl)))
      (pss_cons (ps_if (pt_cmpR op_eq (pv 2) pe_str (nomark _)) (pss_one (ps_ret (pe_lower (pv 1)))) pss_nil)
      (pss_cons (ps_if (pt_cmpR op_eq (pv 2) pe_str (nomark _)) (pss_one (ps_ret (pe_replV (i := 0) nb (pv 1) rfl (.inr (.inl rfl))))) pss_nil)
      (pss_cons (ps_if (pt_cmpR op_eq (pv 2) pe_str (nomark _)) (pss_one (ps_ret (pe_join pe_str
        (pe_lc (own := [("character", 3)]) (g := gName 3) rfl nd (pi_str (pv 1)) (blkOk_by (N := ["step", "text", "name", "character"]) (sc := defScope sMadeByStep) (by decide +kernel)) (fun _ _ _ _ _ => pg_name (i := 3) nd rfl (Or.inl rfl)) (fun _ _ _ _ _ => pts_one (pt_cmpR op_notIn_sign (pv 3) (pe_ix (ix_tupK (K := K) rfl) (pv 0) pe_int (fun _ _ => rfl)) rfl))
          (fun _ _ _ _ _ => pv 3))))) pss_nil)
      (pss_cons (ps_if (pt_cmpR op_eq (pv 2) pe_str (nomark _)) (pss_one (ps_ret (pe_m1 PySem.F.slot_str_lstrip PySem.F.type_str_lstrip mt_lstripChars (pv 1) (pe_ix ix_tup (pv 0) pe_int (fun _ _ => rfl))))) pss_nil)
      (pss_cons (ps_if (pt_cmpR op_eq (pv 2) pe_str (nomark _)) (pss_one (ps_ret (pe_cl G hr (by decide) rfl (pa_cons (pv 1) (pa_cons (pe_ix ix_tup (pv 0) pe_int (fun _ _ => rfl)) pa_nil))))) pss_nil)
      (pss_one (ps_ret (pe_slice C8.sl_txt (pv 1) po_none (po_some (pe_ix ix_tup (pv 0) pe_int (fun _ _ => rfl))))))))))),?_⟩
    have hl60 := hG.2
    refine ⟨_, rfl, p, stpVals st, 0, .str (wordOf st), rfl, rfl, hst.seq, word_at st, ?_⟩
    have in0 : ∀ {c : Nat} {H' : Hp}, Ext H H' → SqT K H' p (stpVals st) := fun k => (hst.ext k).seq
    cases st with
    | low =>
      refine ⟨_, rfl, rfl, _, rfl, ite2 (fun _ => ?_) (fun h => absurd (decide_eq_true rfl) h)⟩
      refine ⟨_, rfl, ⟨_, rfl⟩, _, rfl, rfl, by rw [S_len]; omega, ?_⟩
      rw [lower_mk hG]
      exact q H .refl
    | swap a b =>
      refine ⟨_, rfl, rfl, _, rfl, ite2 (fun h => absurd (show V.str "swap" = V.str "lower" from of_decide_eq_true h) (by decide +kernel)) (fun _ => ?_)⟩
      refine ⟨_, rfl, rfl, _, rfl, ite2 (fun _ => ?_) (fun h => absurd (decide_eq_true rfl) h)⟩
      refine ⟨_, rfl, S l, p, sg a, sg b, rfl, rfl, hst, ?_, ?_⟩
      · have e : (sg b).length = 1 := rfl
        rw [S_len, e]; omega
      · rw [replace_mk]
        exact q H .refl
    | drop cs =>
      refine ⟨_, rfl, rfl, _, rfl, ite2 (fun h => absurd (show V.str "drop" = V.str "lower" from of_decide_eq_true h) (by decide +kernel)) (fun _ => ?_)⟩
      refine ⟨_, rfl, rfl, _, rfl, ite2 (fun h => absurd (show V.str "drop" = V.str "swap" from of_decide_eq_true h) (by decide +kernel)) (fun _ => ?_)⟩
      refine ⟨_, rfl, rfl, _, rfl, ite2 (fun _ => ?_) (fun h => absurd (decide_eq_true rfl) h)⟩
      refine ⟨⟨_, rfl⟩, _, rfl, _, rfl, fun D' hD => lc_text (fun c => if c ∉ cs then some c else none) (by omega) hD (fun c H2 acc Nx hc k2 hacc hal nx => ⟨rfl, ?_⟩) fun H2 h2 k2 => ?_⟩
      · refine ⟨_, rfl, _, rfl, p, _, 1, .str (S cs), rfl, rfl, in0 (c := 0) k2, rfl, c, S cs, rfl, rfl, _, rfl, ?_⟩
        show if (!decide (c ∈ cs)) = true then _ else _
        by_cases hc : c ∈ cs
        · rw [decide_eq_true hc]
          refine iteF (nx H2 ?_ k2)
          rw [if_neg (fun h => h hc)]
          show H2 D' = some (.lst (acc ++ []))
          rw [List.append_nil]; exact hacc
        · rw [decide_eq_false hc]
          refine iteT ⟨_, rfl, acc, hacc, hal, nx _ ?_ (k2.new hD)⟩
          rw [if_pos hc]; exact upd_same
      · rw [← mk_drop] at h2
        exact join_ask h2 (Nat.le_trans (mk_len _ l) (by omega)) (q H2 k2)
    | lead a =>
      refine ⟨_, rfl, rfl, _, rfl, ite2 (fun h => absurd (show V.str "lead" = V.str "lower" from of_decide_eq_true h) (by decide +kernel)) (fun _ => ?_)⟩
      refine ⟨_, rfl, rfl, _, rfl, ite2 (fun h => absurd (show V.str "lead" = V.str "swap" from of_decide_eq_true h) (by decide +kernel)) (fun _ => ?_)⟩
      refine ⟨_, rfl, rfl, _, rfl, ite2 (fun h => absurd (show V.str "lead" = V.str "drop" from of_decide_eq_true h) (by decide +kernel)) (fun _ => ?_)⟩
      refine ⟨_, rfl, rfl, _, rfl, ite2 (fun _ => ?_) (fun h => absurd (decide_eq_true rfl) h)⟩
      refine ⟨_, rfl, ⟨_, rfl⟩, _, rfl, p, _, 1, .str (sg a), rfl, rfl, in0 (c := 0) .refl, rfl, _, _, rfl, rfl, by rw [S_len, sizeLine_eq]; omega, ?_⟩
      rw [lstrip_mk]
      exact q H .refl
    | once a =>
      refine ⟨_, rfl, rfl, _, rfl, ite2 (fun h => absurd (show V.str "once" = V.str "lower" from of_decide_eq_true h) (by decide +kernel)) (fun _ => ?_)⟩
      refine ⟨_, rfl, rfl, _, rfl, ite2 (fun h => absurd (show V.str "once" = V.str "swap" from of_decide_eq_true h) (by decide +kernel)) (fun _ => ?_)⟩
      refine ⟨_, rfl, rfl, _, rfl, ite2 (fun h => absurd (show V.str "once" = V.str "drop" from of_decide_eq_true h) (by decide +kernel)) (fun _ => ?_)⟩
      refine ⟨_, rfl, rfl, _, rfl, ite2 (fun h => absurd (show V.str "once" = V.str "lead" from of_decide_eq_true h) (by decide +kernel)) (fun _ => ?_)⟩
      refine ⟨_, rfl, rfl, _, rfl, ite2 (fun _ => ?_) (fun h => absurd (decide_eq_true rfl) h)⟩
      exact ⟨_, rfl, _, rfl, p, _, 1, .str (sg a), rfl, rfl, in0 (c := 0) .refl, rfl, l, a, rfl, hG, q⟩
    | cut n =>
      refine ⟨_, rfl, rfl, _, rfl, ite2 (fun h => absurd (show V.str "cut" = V.str "lower" from of_decide_eq_true h) (by decide +kernel)) (fun _ => ?_)⟩
      refine ⟨_, rfl, rfl, _, rfl, ite2 (fun h => absurd (show V.str "cut" = V.str "swap" from of_decide_eq_true h) (by decide +kernel)) (fun _ => ?_)⟩
      refine ⟨_, rfl, rfl, _, rfl, ite2 (fun h => absurd (show V.str "cut" = V.str "drop" from of_decide_eq_true h) (by decide +kernel)) (fun _ => ?_)⟩
      refine ⟨_, rfl, rfl, _, rfl, ite2 (fun h => absurd (show V.str "cut" = V.str "lead" from of_decide_eq_true h) (by decide +kernel)) (fun _ => ?_)⟩
      refine ⟨_, rfl, rfl, _, rfl, ite2 (fun h => absurd (show V.str "cut" = V.str "once" from of_decide_eq_true h) (by decide +kernel)) (fun _ => ?_)⟩
      refine ⟨_, rfl, _, rfl, p, _, 1, .int (n : Nat), rfl, rfl, in0 (c := 0) .refl, rfl, _, rfl, _, rfl, by rw [S_len, sizeLine_eq]; omega, ?_⟩
      rw [slice_to (by omega)]
      exact q H .refl
theorem ok_madeBySteps {f : Addr} {fd : FuncData} (F : Fun K "made_by_steps" "made_by_steps" sMadeBySteps f fd) (G : Cl P w K mg base 2 "made_by_step" spMade) : FnOk P w K mg base CX0 3 f fd ["steps", "text"] (spMadeSteps K) := by
  refine F.ok scMadeBySteps (fun vs H Q E h => ?_) (fun cdv A outer s H vs Q E hr h => ?_)
  · obtain ⟨p, st, l, rfl, _⟩ := h
    rfl
  · obtain ⟨r, sts, l, rfl, ⟨ps, hr0, al⟩, hG, q⟩ := h
    have nd := scMadeBySteps.nd
    refine ⟨_, pss_cons (ps_for PassesOwn.never rfl (pi_tup (pv 0)) (pg_name (i := 2) nd rfl (Or.inl rfl)) (pss_one (ps_set (i := 1) nd rfl (Or.inl rfl) (pe_cl G hr (by decide) rfl (pa_cons (pv 2) (pa_cons (pv 1) pa_nil)))))) (pss_one (ps_ret (pv 1))), ?_⟩
    refine ⟨_, rfl, r, rfl, ⟨_, hr0⟩, for_it (walk_tup (xs := ps.map V.ref)) (fun i σ H' => ∃ u, σ = [some (.ref r), some (.str (S (mks (sts.take i) l))), u] ∧ Ext H H') ⟨none, by rw [List.take_zero]; rfl, .refl⟩ (fun i σ H' _ p => by
      obtain ⟨u, _, k⟩ := p
      exact sqT_keep hr0 (fun o x => k r o x)) ?_ ?_⟩
    · rintro i x σ H2 H3 hi ⟨u, rfl, k2⟩ ⟨rfl, hx⟩
      rw [List.getElem?_map] at hx
      obtain ⟨p, hp, rfl⟩ := Option.map_eq_some_iff.mp hx
      obtain ⟨st, e, hst, ok⟩ := al.get hp
      have gd : Good (mks (sts.take i) l) := mks_good (fun s hs => al.ok s (List.mem_of_mem_take hs)) hG
      refine ⟨_, rfl, _, rfl, p, st, _, rfl, hst.ext k2, ok, gd, fun H4 k4 => ⟨some (.ref p), ?_, k2.trans k4⟩⟩
      rw [mks_take l e]
      rfl
    · rintro σ H2 ⟨u, rfl, k2⟩
      refine ⟨_, rfl, ?_⟩
      rw [List.length_map, al.len, List.take_length]
      exact q H2 k2
end
end Pd

set_option maxHeartbeats 4000000
namespace Pd
open PySem PySem.Spec PyProof.Rows L2 SX
/-- a folding at o: its steps' tuple at r -/
def FoldAt (K : PySem.W.Frag) (C : Addr) (H : Hp) (o r : Addr) (sts : List Stp) : Prop := (∃ dx, H o = some (.ins C dx [("_steps", .ref r)])) ∧ RowAt K H r sts ∧ sts.length ≤ 6
theorem FoldAt.ext {K : PySem.W.Frag} {C : Addr} {H H' : Hp} {o r : Addr} {sts : List Stp} (h : FoldAt K C H o r sts) (k : Ext H H') : FoldAt K C H' o r sts := by
  obtain ⟨⟨dx, e⟩, a, l⟩ := h
  exact ⟨⟨dx, k o _ e⟩, a.ext k, l⟩
theorem FoldAt.kp {K : PySem.W.Frag} {C : Addr} {H H' : Hp} {j o r : Addr} {sts : List Stp} {xs : List V} (h : FoldAt K C H o r sts) (k : Kp j H H') (hj : H j = some (.lst xs)) : FoldAt K C H' o r sts := by
  obtain ⟨⟨dx, e⟩, a, l⟩ := h
  exact ⟨⟨dx, k o _ (by rintro rfl; rw [e] at hj; cases hj) e⟩, a.kp k hj, l⟩
theorem StpAt.noIns {H : Hp} {p : Addr} {st : Stp} (h : StpAt H p st) {C : Addr} {dx : Addr} {fs : List (Str × V)} (e : H p = Option.some (.ins C dx fs)) : False := by
  cases st with
  | swap a b =>
    obtain ⟨n, t0, t, u, e', _⟩ := h
    rw [e] at e'; cases e'
  | low => rw [show H p = _ from h] at e; cases e
  | drop _ => rw [show H p = _ from h] at e; cases e
  | lead _ => rw [show H p = _ from h] at e; cases e
  | once _ =>
    rcases h with h | ⟨o, h⟩
    · rw [h] at e; cases e
    · rw [h] at e; cases e
  | cut _ => rw [show H p = _ from h] at e; cases e
/-- what the program asks of the class -/
structure Fcl (K : PySem.W.Frag) (mg : Str → Option Value) (C : Addr) : Prop where
  cl : Cls K C
  nS : NoAttr K C "_steps"
  mgC : mg "Folding" = some (.ref C)
theorem sqT_noIns {K : PySem.W.Frag} {H H' : Hp} {o a C dx : Addr} {xs : List V} {fs : List (Str × V)} (h : SqT K H a xs) (ho : H o = some (.ins C dx fs)) (k : ∀ b u, b ≠ o → H b = some u → H' b = some u) : SqT K H' a xs := by
  rcases h with (h | ⟨u, h⟩) | h
  · exact .inl (.inl (k a _ (by rintro rfl; rw [h] at ho; cases ho) h))
  · exact .inl (.inr ⟨u, k a _ (by rintro rfl; rw [h] at ho; cases ho) h⟩)
  · exact .inr h
def spFInit (K : PySem.W.Frag) (C : Addr) : Sp := fun vs H Q _ => ∃ (o dx r : Addr) (sts : List Stp), vs = [.ref o, .ref r] ∧ H o = some (.ins C dx []) ∧ RowAt K H r sts ∧ sts.length ≤ 6 ∧
  ∀ H', FoldAt K C H' o r sts → (∀ b u, b ≠ o → H b = some u → H' b = some u) → Q .non H'
def spFCall (K : PySem.W.Frag) (C : Addr) : Sp := fun vs H Q _ => ∃ (o r : Addr) (sts : List Stp) (l : List Nat), vs = [.ref o, .str (S l)] ∧ FoldAt K C H o r sts ∧ Good l ∧ ∀ H', Ext H H' → Q (.str (S (mks sts l))) H'
section
variable {P : Program} {w : World} {K : PySem.W.Frag} {mg : Str → Option Value} {base : Heap}
theorem ok_finit {f Cf : Addr} {fd : FuncData} {dvs : List V} (F : FunD K "__init__" "Folding.__init__" (defArgs sFoldingInit) (defBody sFoldingInit) (defScope sFoldingInit) dvs [] f fd) (T : Nms mg) (C : Cst mg) (Z : Fcl K mg Cf) (G : Cl P w K mg base 3 "is_step" spIsStep) :
    FnOk P w K mg base CX0 4 f fd ["self", "steps"] (spFInit K Cf) := by
  refine F.ok scFoldingInit (fun vs H Q E h => ?_) (fun cdv A outer s H vs Q E hr h => ?_)
  · obtain ⟨o, dx, r, sts, rfl, _⟩ := h
    rfl
  · obtain ⟨o, dx, r, sts, rfl, ho, ⟨ps, hr0, al⟩, h6, q⟩ := h
    have nd := scFoldingInit.nd
    obtain ⟨t6, hm⟩ := C.steps
    refine ⟨_, PSs.nox (pss_cons (ps_if (pt_not (pt_val (pe_callB call_isi (by rfl) T.isi (by decide +kernel) (pa_cons (pv 1) (pa_cons (pe_bltn (v := .ty "tuple") (by rfl) T.tuple (by decide +kernel) rfl) pa_nil))))) pss_never pss_nil)
      (pss_cons (ps_for PassesOwn.never rfl (pi_enumT (by rfl) T.enum (pa_cons (pv 1) pa_nil)) (pg_tup (by rfl) (pgs_cons (pg_name (i := 2) nd rfl (Or.inl rfl)) (pgs_cons (pg_name (i := 3) nd rfl (Or.inl rfl)) pgs_nil)))
        (pss_one (ps_if (PW.pt (pw_or (pt_cmpR op_ge (pv 2) (pe_glob (v := .int 6) rfl hm ⟨_, rfl⟩) (nomark _)) (pw_or1 (pt_not (pt_val (pe_cl G hr (by decide) rfl (pa_cons (pv 3) pa_nil))))))) pss_never pss_nil)))
      (pss_one (ps_fld (pv 0) (pv 1) rfl)))), ?_⟩
    refine ⟨_, rfl, _, _, _, _, true, rfl, .ty "tuple", sqT_ty hr0, kit_ty (by decide +kernel), true, rfl, iteF ?_⟩
    refine ⟨_, rfl, r, _, rfl, hr0, for_it (walk_enumT (xs := ps.map V.ref)) (fun i σ H' => ∃ u v, σ = [some (.ref o), some (.ref r), u, v] ∧ Ext H H') ⟨none, none, rfl, .refl⟩ (fun i σ H' _ p => by
      obtain ⟨u, v, _, k⟩ := p
      exact sqT_keep hr0 (fun o x => k r o x)) ?_ ?_⟩
    · rintro i x σ H2 H3 hi ⟨u, v, rfl, k2⟩ ⟨Ta, x1, y1, rfl, hT, rfl, e1, e2⟩
      obtain rfl := Option.some.inj e1
      rw [List.length_map] at hi
      replace e2 : (ps.map V.ref)[i]? = some y1 := e2
      rw [List.getElem?_map] at e2
      obtain ⟨p, hp, rfl⟩ := Option.map_eq_some_iff.mp e2
      obtain ⟨st, es, hst, ok⟩ := al.get hp
      have k3 : Ext H (L2.upd H2 Ta (.tup [V.int (i : Nat), V.ref p])) := fun b ob hb => by
        rw [upd_ne (ne_of_none (k2 b ob hb) hT)]; exact k2 b ob hb
      have i6 : i < 6 := by have := al.len; omega
      refine ⟨Ta, _, rfl, SqT.of upd_same, rfl, _, _, rfl, _, _, rfl, rfl, ?_⟩
      refine ⟨_, rfl, _, _, rfl, rfl, _, rfl, ?_⟩
      rw [decide_eq_false (show ¬ ((i : Nat) : Int) ≥ 6 by omega)]
      refine iteF ⟨_, rfl, p, st, rfl, hst.ext k3, ok, fun H4 k4 => ⟨true, rfl, iteF ⟨some (.int (i : Nat)), some (.ref p), rfl, k3.trans k4⟩⟩⟩
    · rintro σ H2 ⟨u, v, rfl, k2⟩
      refine ⟨_, rfl, _, rfl, o, Cf, dx, [], rfl, k2 o _ ho, Z.cl, Z.nS, (by show 0 < 1000; decide), ?_⟩
      have no : ∀ b u, b ≠ o → H b = some u → (L2.upd H2 o (.ins Cf dx (putF "_steps" (V.ref r) []))) b = some u := fun b u n e => by rw [upd_ne n]; exact k2 b u e
      refine q (L2.upd H2 o (.ins Cf dx (putF "_steps" (V.ref r) []))) ⟨⟨dx, upd_same⟩, ⟨ps, sqT_noIns hr0 ho no, al.same fun p hp ob e => no p ob ?_ e⟩, h6⟩ no
      rintro rfl
      obtain ⟨st, hst⟩ := al.mem hp
      exact hst.noIns ho
theorem ok_fcall {f Cf : Addr} {fd : FuncData} (F : Fun K "__call__" "Folding.__call__" sFoldingCall f fd) (T : Nms mg) (Z : Fcl K mg Cf) (G : Cl P w K mg base 1 "is_text" spIsText) (G2 : Cl P w K mg base 3 "made_by_steps" (spMadeSteps K)) :
    FnOk P w K mg base CX0 4 f fd ["self", "text"] (spFCall K Cf) := by
  refine F.ok scFoldingCall (fun vs H Q E h => ?_) (fun cdv A outer s H vs Q E hr h => ?_)
  · obtain ⟨o, r, sts, l, rfl, _⟩ := h
    rfl
  · obtain ⟨o, r, sts, l, rfl, hF, hG, q⟩ := h
    have nd := scFoldingCall.nd
    refine ⟨_, pss_cons (ps_if (pt_not (pt_val (pe_cl G hr (by decide) rfl (pa_cons (pv 1) pa_nil)))) pss_never pss_nil)
      (pss_one (ps_ret (pe_cl G2 hr (by decide) rfl (pa_cons (pe_fld (pv 0) rfl) (pa_cons (pv 1) pa_nil))))), ?_⟩
    refine ⟨_, rfl, l, rfl, by have := hG.2; omega, fun H2 k2 => ⟨_, rfl, ?_⟩⟩
    rw [goodB_of hG]
    refine iteF ?_
    obtain ⟨⟨dx, e⟩, hR, h6⟩ := hF.ext k2
    exact ⟨_, rfl, o, Cf, dx, _, _, rfl, e, Z.cl, Z.nS, rfl, _, rfl, r, sts, l, rfl, hR, hG, fun H3 k3 => q H3 (k2.trans k3)⟩
end
end Pd

set_option maxHeartbeats 4000000
namespace Pd
open PySem PySem.Spec PyProof.Rows L2 SX
theorem sqL_keep {K : PySem.W.Frag} {H H' : Hp} {a : Addr} {xs : List V} (h : SqL K H a xs) (k : ∀ o, H a = some o → H' a = some o) : SqL K H' a xs := by
  rcases h with (h | ⟨o, h⟩) | h
  · exact .inl (.inl (k _ h))
  · exact .inl (.inr ⟨o, k _ h⟩)
  · exact .inr h
theorem JarAt.ext {H H' : Hp} {j : Addr} {n : Nat} (h : JarAt H j n) (k : Ext H H') : JarAt H' j n := by
  obtain ⟨a, b, c, h1, r⟩ := h
  exact ⟨a, b, c, k j _ h1, r⟩
theorem SgnsAt.ext {H H' : Hp} {a : Addr} {gs : List Nat} (h : SgnsAt H a gs) (k : Ext H H') : SgnsAt H' a gs := by
  refine ⟨?_, h.len, h.ok⟩
  obtain ⟨its, n, m, q, e, r⟩ := h.at_
  exact ⟨its, n, m, q, k a _ e, r⟩
theorem FoldAt.ins {K : PySem.W.Frag} {X : Cx} {C : Addr} {H : Hp} {o r : Addr} {sts : List Stp} (h : FoldAt K C H o r sts) : StX.InsC X H o C := by
  obtain ⟨⟨dx, e⟩, _⟩ := h
  exact .inr ⟨dx, _, e⟩
theorem mks_one (st : Stp) (l : List Nat) : mks [st] l = mk st l := rfl
theorem ne_same {x : Str} {A B : Prop} (h : B) : if (!decide (V.str x = V.str x)) = true then A else B := by
  rw [decide_eq_true rfl]; exact h
theorem strS_eq {a b : List Nat} : V.str (S a) = V.str (S b) ↔ a = b := by
  constructor
  · intro h
    injection h with h
    exact SX.S_inj h
  · rintro rfl; rfl
theorem dec_S (a b : List Nat) : decide (V.str (S a) = V.str (S b)) = decide (a = b) := by
  by_cases h : a = b
  · rw [decide_eq_true h, decide_eq_true (strS_eq.mpr h)]
  · rw [decide_eq_false h, decide_eq_false (fun e => h (strS_eq.mp e))]
/-- a folding made of a row: what __init__ asks, and the heap behind it -/
theorem made_ask {K : PySem.W.Frag} {C : Addr} {H : Hp} {r x dx : Addr} {sts : List Stp} {Q : VK} {E : XK} (hR : RowAt K H r sts) (h6 : sts.length ≤ 6) (hx : H x = none) (hdx : H dx = none) (ne : dx ≠ x) (q : ∀ H', FoldAt K C H' x r sts → Ext H H' → Q .non H') :
    spFInit K C [.ref x, V.ref r] (upd (upd H dx (.own x)) x (.ins C dx [])) Q E := by
  have k : Ext H (upd (upd H dx (.own x)) x (.ins C dx [])) := fun b u e => by
    rw [upd_ne (ne_of_none e hx), upd_ne (ne_of_none e hdx)]; exact e
  exact ⟨x, dx, r, sts, rfl, upd_same, hR.ext k, h6, fun H' F k2 => q H' F fun b u e => k2 b u (ne_of_none e hx) (k b u e)⟩
/-- the class Folding: made by position, called by position -/
structure Fol (P : Program) (w : World) (K : PySem.W.Frag) (mg : Str → Option Value) (base : Heap) (C : Addr) : Prop where
  made : ∃ (f : Addr) (fd : FuncData), Mk K C f ∧ FnOk P w K mg base CX0 4 f fd ["self", "steps"] (spFInit K C) ∧ Binds K fd ["self", "steps"] []
  call : ∃ (g : Addr) (fd : FuncData), StX.CallO K C g ∧ FnOk P w K mg base CX0 4 g fd ["self", "text"] (spFCall K C) ∧ Binds K fd ["self", "text"] []
  mgC : mg "Folding" = some (.ref C)
def spRow (K : PySem.W.Frag) : Sp := fun vs H Q _ => ∃ (j a : Addr) (n : Nat) (gs : List Nat), vs = [.ref j, .ref a, .int 6] ∧ JarAt H j n ∧ SgnsAt H a gs ∧ n + 400 < 1000000 ∧
  ∀ r sts H', H r = none → sts.length ≤ 6 → RowAt K H' r sts → JarAt H' j (n + 400) → Kp j H H' → Q (.ref r) H'
def spFIn (K : PySem.W.Frag) (C : Addr) : Sp := fun vs H Q _ => ∃ (o r : Addr) (sts : List Stp) (l : List Nat), vs = [.ref o, .str (S l)] ∧ FoldAt K C H o r sts ∧ Good l ∧ ∀ H', Ext H H' → Q (.bl (decide (mks sts l = l))) H'
section
variable {P : Program} {w : World} {K : PySem.W.Frag} {mg : Str → Option Value} {base : Heap}
theorem ok_fin {f Cf : Addr} {fd : FuncData} (F : Fun K "__contains__" "Folding.__contains__" sFoldingContains f fd) (T : Nms mg) (Z : Fcl K mg Cf) (G : Cl P w K mg base 1 "is_text" spIsText) (G2 : Cl P w K mg base 3 "made_by_steps" (spMadeSteps K)) :
    FnOk P w K mg base CX0 4 f fd ["self", "x"] (spFIn K Cf) := by
  refine F.ok scFoldingContains (fun vs H Q E h => ?_) (fun cdv A outer s H vs Q E hr h => ?_)
  · obtain ⟨o, r, sts, l, rfl, _⟩ := h
    rfl
  · obtain ⟨o, r, sts, l, rfl, hF, hG, q⟩ := h
    refine ⟨_, pss_one (ps_ret (pe_and (pe_cl G hr (by decide) rfl (pa_cons (pv 1) pa_nil)) (pe_one (pe_cmpR op_eq (pe_cl G2 hr (by decide) rfl (pa_cons (pe_fld (pv 0) rfl) (pa_cons (pv 1) pa_nil))) (pv 1) (nomark _))))), ?_⟩
    refine ⟨_, rfl, l, rfl, by have := hG.2; omega, fun H2 k2 => ⟨_, rfl, ?_⟩⟩
    rw [goodB_of hG]
    refine iteT ?_
    obtain ⟨⟨dx, e⟩, hR, h6⟩ := hF.ext k2
    refine ⟨_, rfl, o, Cf, dx, _, _, rfl, e, Z.cl, Z.nS, rfl, _, rfl, r, sts, l, rfl, hR, hG, fun H3 k3 => ⟨_, rfl, rfl, ?_⟩⟩
    rw [dec_S]
    exact q H3 (k2.trans k3)
end
end Pd

set_option maxHeartbeats 4000000
namespace Pd
open PySem PySem.Spec PyProof.Rows L2 SX
theorem strOk_CH {l : List Nat} (h : ∀ c ∈ l, c ∈ CH) : PyData.strOk (S l) = true := by
  unfold PyData.strOk
  rw [← Array.all_toList, List.all_eq_true]
  exact fun c hc => decide_eq_true (Nat.lt_trans (CH_lt c (h c hc)) (by decide))
theorem Ext.new' {H H' : Hp} {D : Addr} {o : HO} (a : Ext H H') (h : H' D = none) : Ext H (upd H' D o) := fun b u e => by
  rw [upd_ne (ne_of_none (a b u e) h)]; exact a b u e
/-! ### steps as data -/
def stpData : Stp → PyData
  | .low => .tuple [.str "lower"]
  | .swap a b => .tuple [.str "swap", .str (sg a), .str (sg b)]
  | .drop cs => .tuple [.str "drop", .str (S cs)]
  | .lead a => .tuple [.str "lead", .str (sg a)]
  | .once a => .tuple [.str "once", .str (sg a)]
  | .cut n => .tuple [.str "cut", .int (n : Nat)]
theorem stp_dp {K : PySem.W.Frag} {H : Hp} {p : Addr} {st : Stp} (h : StpAt H p st) : Dp K H (.ref p) (stpData st) := by
  have e := h.seq (K := K)
  cases st with
  | low => exact .tup e (.cons (.str _) .nil)
  | swap a b => exact .tup e (.cons (.str _) (.cons (.str _) (.cons (.str _) .nil)))
  | drop cs => exact .tup e (.cons (.str _) (.cons (.str _) .nil))
  | lead a => exact .tup e (.cons (.str _) (.cons (.str _) .nil))
  | once a => exact .tup e (.cons (.str _) (.cons (.str _) .nil))
  | cut n => exact .tup e (.cons (.str _) (.cons (.int _) .nil))
theorem al_dp {K : PySem.W.Frag} {H : Hp} : ∀ {ps : List Addr} {sts : List Stp}, Al H ps sts → DpAll K H (ps.map V.ref) (sts.map stpData)
  | _, _, .nil => .nil
  | _, _, .cons h _ r => .cons (stp_dp h) (al_dp r)
theorem stp_shape {st : Stp} (ok : st.ok) : (stpData st).canLay0 = true ∧ (stpData st).depth = 1 := by
  have one : ∀ {c : Nat}, c ∈ CH → PyData.strOk (sg c) = true := fun {c} h => strOk_CH (l := [c]) fun x hx => by rw [List.mem_singleton.mp hx]; exact h
  have w : PyData.strOk "lower" = true ∧ PyData.strOk "swap" = true ∧ PyData.strOk "drop" = true ∧ PyData.strOk "lead" = true ∧ PyData.strOk "once" = true ∧ PyData.strOk "cut" = true := by decide +kernel
  cases st with
  | low => simp [stpData, PyData.canLay0, PyData.canLayAll0, PyData.depth, PyData.depthAll, w]
  | swap a b => simp [stpData, PyData.canLay0, PyData.canLayAll0, PyData.depth, PyData.depthAll, w, one ok.1, one ok.2]
  | drop cs => simp [stpData, PyData.canLay0, PyData.canLayAll0, PyData.depth, PyData.depthAll, w, strOk_CH ok.2.2.2]
  | lead a => simp [stpData, PyData.canLay0, PyData.canLayAll0, PyData.depth, PyData.depthAll, w, one ok]
  | once a => simp [stpData, PyData.canLay0, PyData.canLayAll0, PyData.depth, PyData.depthAll, w, one ok]
  | cut n => simp [stpData, PyData.canLay0, PyData.canLayAll0, PyData.depth, PyData.depthAll, w]
theorem row_shape {sts : List Stp} (ok : ∀ st ∈ sts, st.ok) : SeqAt.shaped (.tuple (sts.map stpData)) = true := by
  have key : PyData.canLayAll0 (sts.map stpData) = true ∧ PyData.depthAll (sts.map stpData) ≤ 1 := by
    induction sts with
    | nil => exact ⟨rfl, Nat.zero_le _⟩
    | cons st sts ih =>
      obtain ⟨h1, h2⟩ := ih fun s hs => ok s (List.mem_cons_of_mem _ hs)
      obtain ⟨h3, h4⟩ := stp_shape (ok st (List.mem_cons_self ..))
      refine ⟨?_, ?_⟩
      · rw [List.map_cons]; simp only [PyData.canLayAll0, h3, h1, Bool.and_self]
      · rw [List.map_cons]; simp only [PyData.depthAll, h4]; omega
  unfold SeqAt.shaped
  simp only [PyData.canLay0, PyData.depth, key.1, Bool.true_and]
  exact decide_eq_true (by have := key.2; omega)
theorem op_neDK {X : Cx} {K : PySem.W.Frag} (h : X.K = K) (hu : X.A.units + 64 < cLine) : OpR X (compareOp .NotEq) (rNeD K) := by
  subst h; exact op_neD hu
theorem ext_kp {j : Addr} {H1 H2 H3 : Hp} (a : Ext H1 H2) (b : Kp j H2 H3) (n : H1 j = none) : Ext H1 H3 := fun c o e => b c o (by rintro rfl; rw [e] at n; cases n) (a c o e)
/-- rows, and foldings of them -/
inductive Rw (K : PySem.W.Frag) (H : Hp) : List Addr → List (List Stp) → Prop where
  | nil : Rw K H [] []
  | cons {r : Addr} {sts : List Stp} {rs : List Addr} {rws : List (List Stp)} (h : RowAt K H r sts) (l : sts.length ≤ 6) (t : Rw K H rs rws) : Rw K H (r :: rs) (sts :: rws)
theorem Rw.ext {K : PySem.W.Frag} {H H' : Hp} : ∀ {rs : List Addr} {rws : List (List Stp)}, Rw K H rs rws → Ext H H' → Rw K H' rs rws
  | _, _, .nil, _ => .nil
  | _, _, .cons h l t, k => .cons (h.ext k) l (t.ext k)
theorem Rw.kp {K : PySem.W.Frag} {H H' : Hp} {j : Addr} {ys : List V} (hj : H j = some (.lst ys)) : ∀ {rs : List Addr} {rws : List (List Stp)}, Rw K H rs rws → Kp j H H' → Rw K H' rs rws
  | _, _, .nil, _ => .nil
  | _, _, .cons h l t, k => .cons (h.kp k hj) l (t.kp hj k)
theorem Rw.snoc {K : PySem.W.Frag} {H : Hp} {r : Addr} {sts : List Stp} (h : RowAt K H r sts) (l : sts.length ≤ 6) : ∀ {rs : List Addr} {rws : List (List Stp)}, Rw K H rs rws → Rw K H (rs ++ [r]) (rws ++ [sts])
  | _, _, .nil => .cons h l .nil
  | _, _, .cons h' l' t => .cons h' l' (t.snoc h l)
theorem Rw.len {K : PySem.W.Frag} {H : Hp} : ∀ {rs : List Addr} {rws : List (List Stp)}, Rw K H rs rws → rs.length = rws.length
  | _, _, .nil => rfl
  | _, _, .cons _ _ t => congrArg (· + 1) t.len
theorem Rw.get {K : PySem.W.Frag} {H : Hp} : ∀ {rs : List Addr} {rws : List (List Stp)} {i : Nat} {r : Addr}, Rw K H rs rws → rs[i]? = some r → ∃ sts, rws[i]? = some sts ∧ RowAt K H r sts ∧ sts.length ≤ 6
  | _, _, _, _, .nil, e => by simp at e
  | _, _, 0, _, .cons h l t, e => by
    simp at e; subst e
    exact ⟨_, by simp, h, l⟩
  | _, _, i + 1, _, .cons h l t, e => by
    obtain ⟨sts, e1, h1⟩ := t.get (i := i) (by simpa using e)
    exact ⟨sts, by simpa using e1, h1⟩
end Pd

set_option maxHeartbeats 4000000
namespace Pd
open PySem PySem.Spec PyProof.Rows L2 SX
/-- __len__ and steps() of a folding -/
def spFLen (K : PySem.W.Frag) (C : Addr) : Sp := fun vs H Q _ => ∃ (o r : Addr) (sts : List Stp), vs = [.ref o] ∧ FoldAt K C H o r sts ∧ Q (.int (sts.length : Nat)) H
def spFSteps (K : PySem.W.Frag) (C : Addr) : Sp := fun vs H Q _ => ∃ (o r : Addr) (sts : List Stp), vs = [.ref o] ∧ FoldAt K C H o r sts ∧ Q (.ref r) H
section
variable {P : Program} {w : World} {K : PySem.W.Frag} {mg : Str → Option Value} {base : Heap}
theorem ok_flen {f Cf : Addr} {fd : FuncData} (F : Fun K "__len__" "Folding.__len__" sFoldingLen f fd) (T : Nms mg) (Z : Fcl K mg Cf) : FnOk P w K mg base CX0 1 f fd ["self"] (spFLen K Cf) := by
  refine F.ok scFoldingLen (fun vs H Q E h => ?_) (fun cdv A outer s H vs Q E hr h => ?_)
  · obtain ⟨o, r, sts, rfl, _⟩ := h
    rfl
  · obtain ⟨o, r, sts, rfl, ⟨⟨dx, e⟩, ⟨ps, hps, al⟩, _⟩, q⟩ := h
    refine ⟨_, pss_one (ps_ret (pe_callB call_len_seq (by rfl) T.len PySem.boot_len (pa_cons (pe_fld (pv 0) rfl) pa_nil))), ?_⟩
    refine ⟨_, rfl, o, Cf, dx, _, _, rfl, e, Z.cl, Z.nS, rfl, r, _, rfl, .inr hps, ?_⟩
    rw [List.length_map, al.len]
    exact q
theorem ok_fsteps {f Cf : Addr} {fd : FuncData} (F : Fun K "steps" "Folding.steps" sFoldingSteps f fd) (Z : Fcl K mg Cf) : FnOk P w K mg base CX0 1 f fd ["self"] (spFSteps K Cf) := by
  refine F.ok scFoldingSteps (fun vs H Q E h => ?_) (fun cdv A outer s H vs Q E hr h => ?_)
  · obtain ⟨o, r, sts, rfl, _⟩ := h
    rfl
  · obtain ⟨o, r, sts, rfl, ⟨⟨dx, e⟩, _, _⟩, q⟩ := h
    exact ⟨_, pss_one (ps_ret (pe_fld (pv 0) rfl)), _, rfl, o, Cf, dx, _, _, rfl, e, Z.cl, Z.nS, rfl, q⟩
end
/-- the class Folding: its length, its steps -/
structure FolS (P : Program) (w : World) (K : PySem.W.Frag) (mg : Str → Option Value) (base : Heap) (C : Addr) : Prop where
  cl : Cls K C
  len : ∃ (g : Addr) (fd : FuncData), PySem.W.findIn K (.ref C) "__len__" = some (some (.ref g)) ∧ PySem.W.isFn K (.ref g) = true ∧ FnOk P w K mg base CX0 1 g fd ["self"] (spFLen K C) ∧ Binds K fd ["self"] []
  steps : ∃ (g : Addr) (fd : FuncData), Meth K C "steps" g ∧ FnOk P w K mg base CX0 1 g fd ["self"] (spFSteps K C) ∧ Binds K fd ["self"] []
end Pd

set_option maxHeartbeats 4000000
namespace Pd
open PySem PySem.Spec PyProof.Rows L2 SX
/-! ### rows cut and put together -/
theorem Al.take {H : Hp} : ∀ {ps : List Addr} {sts : List Stp} (k : Nat), Al H ps sts → Al H (ps.take k) (sts.take k)
  | _, _, 0, _ => by rw [List.take_zero, List.take_zero]; exact .nil
  | _, _, k + 1, .nil => .nil
  | _, _, k + 1, .cons h ok r => .cons h ok (r.take k)
theorem Al.drop {H : Hp} : ∀ {ps : List Addr} {sts : List Stp} (k : Nat), Al H ps sts → Al H (ps.drop k) (sts.drop k)
  | _, _, 0, h => h
  | _, _, k + 1, .nil => .nil
  | _, _, k + 1, .cons h ok r => r.drop k
theorem Al.append {H : Hp} : ∀ {ps qs : List Addr} {sts tts : List Stp}, Al H ps sts → Al H qs tts → Al H (ps ++ qs) (sts ++ tts)
  | _, _, _, _, .nil, h => h
  | _, _, _, _, .cons h ok r, q => .cons h ok (r.append q)
theorem row_take {K : PySem.W.Frag} {H : Hp} {r : Addr} {sts : List Stp} {k : Int} {Q : VK} (hR : RowAt K H r sts) (h0 : 0 ≤ k) (q : ∀ r' H', Ext H H' → RowAt K H' r' (sts.take k.toNat) → Q (.ref r') H') : rSlA K (.ref r) none (some k) H Q := by
  obtain ⟨ps, hp, al⟩ := hR
  have ek : k = ((k.toNat : Nat) : Int) := by omega
  have hl : (ps.map V.ref).length = ps.length := List.length_map _
  refine ⟨r, _, rfl, hp, fun hw => ?_, fun hw p np => ?_⟩
  · have e := hw.2
    rw [ek, HT.sIx_nat, hl] at e
    refine q r H .refl ⟨ps, hp, ?_⟩
    have := al.len
    rw [List.take_of_length_le (by omega)]
    exact al
  · refine q p _ (Ext.refl.new np) ⟨ps.take k.toNat, SqT.of ?_, (al.take _).ext (Ext.refl.new np)⟩
    rw [upd_same]
    unfold cutV
    rw [ek, HT.sIx_nat, HT.sIx_none, List.drop_zero, Nat.sub_zero, List.map_take, hl]
    congr 2
    by_cases h : k.toNat ≤ ps.length
    · rw [Nat.min_eq_left (by omega)]; rw [Int.toNat_natCast]
    · rw [Nat.min_eq_right (by omega), List.take_of_length_le (by rw [hl]; omega), List.take_of_length_le (by rw [hl]; omega)]
theorem row_drop {K : PySem.W.Frag} {H : Hp} {r : Addr} {sts : List Stp} {k : Int} {Q : VK} (hR : RowAt K H r sts) (h0 : 0 ≤ k) (q : ∀ r' H', Ext H H' → RowAt K H' r' (sts.drop k.toNat) → Q (.ref r') H') : rSlA K (.ref r) (some k) none H Q := by
  obtain ⟨ps, hp, al⟩ := hR
  have ek : k = ((k.toNat : Nat) : Int) := by omega
  have hl : (ps.map V.ref).length = ps.length := List.length_map _
  refine ⟨r, _, rfl, hp, fun hw => ?_, fun hw p np => ?_⟩
  · have e := hw.1
    rw [ek, HT.sIx_nat, hl] at e
    have hlen := al.len
    by_cases hk : k.toNat = 0
    · refine q r H .refl ⟨ps, hp, ?_⟩
      rw [hk]
      exact al
    · have e2 : ps.length = 0 := by omega
      have e3 : ps = [] := List.eq_nil_of_length_eq_zero e2
      subst e3
      have e4 : sts = [] := List.eq_nil_of_length_eq_zero (by rw [← hlen]; rfl)
      subst e4
      refine q r H .refl ⟨[], hp, ?_⟩
      rw [List.drop_nil]
      exact .nil
  · refine q p _ (Ext.refl.new np) ⟨ps.drop k.toNat, SqT.of ?_, (al.drop _).ext (Ext.refl.new np)⟩
    rw [upd_same]
    unfold cutV
    rw [ek, HT.sIx_nat, HT.sIx_none, List.map_drop, hl, Int.toNat_natCast]
    congr 2
    by_cases h : k.toNat ≤ ps.length
    · rw [Nat.min_eq_left (by omega), List.take_of_length_le (by rw [List.length_drop, hl]; omega)]
    · rw [Nat.min_eq_right (by omega), Nat.sub_self, List.take_zero, List.drop_eq_nil_of_le (by rw [hl]; omega)]
theorem row_cat {K : PySem.W.Frag} {H : Hp} {r t : Addr} {s1 s2 : List Stp} {Q : VK} (h1 : RowAt K H r s1) (h2 : RowAt K H t s2) (hl : s1.length + s2.length ≤ 1000) (q : ∀ r' H', Ext H H' → RowAt K H' r' (s1 ++ s2) → Q (.ref r') H') : rCatA K (.ref r) (.ref t) H Q := by
  obtain ⟨ps, hp, al⟩ := h1
  obtain ⟨qs, hq, bl⟩ := h2
  have n1 : ps.map V.ref = [] → s1 = [] := fun e => by
    have := al.len
    rw [List.map_eq_nil_iff.mp e] at this
    exact List.eq_nil_of_length_eq_zero this.symm
  have n2 : qs.map V.ref = [] → s2 = [] := fun e => by
    have := bl.len
    rw [List.map_eq_nil_iff.mp e] at this
    exact List.eq_nil_of_length_eq_zero this.symm
  refine ⟨r, t, _, _, rfl, rfl, hp, hq, ?_, fun e => ?_, fun _ e => ?_, fun _ _ p np => ?_⟩
  · rw [List.length_map, List.length_map, al.len, bl.len, sizeLine_eq]; omega
  · rw [n1 e, List.nil_append] at q
    exact q t H .refl ⟨qs, hq, bl⟩
  · rw [n2 e, List.append_nil] at q
    exact q r H .refl ⟨ps, hp, al⟩
  · refine q p _ (Ext.refl.new np) ⟨ps ++ qs, SqT.of ?_, (al.append bl).ext (Ext.refl.new np)⟩
    rw [upd_same, List.map_append]
theorem mks_append (a b : List Stp) (l : List Nat) : mks (a ++ b) l = mks b (mks a l) := List.foldl_append ..
def spAdd (K : PySem.W.Frag) (C : Addr) : Sp := fun vs H Q _ => ∃ (o1 r1 o2 r2 : Addr) (s1 s2 : List Stp), vs = [.ref o1, .ref o2] ∧ FoldAt K C H o1 r1 s1 ∧ FoldAt K C H o2 r2 s2 ∧ s1.length + s2.length ≤ 6 ∧
  ∀ o r H', Ext H H' → FoldAt K C H' o r (s1 ++ s2) → Q (.ref o) H'
section
variable {P : Program} {w : World} {K : PySem.W.Frag} {mg : Str → Option Value} {base : Heap}
theorem ok_fadd {f Cf : Addr} {fd : FuncData} (F : Fun K "__add__" "Folding.__add__" sFoldingAdd f fd) (T : Nms mg) (Z : Fcl K mg Cf) (IC : C8.InsC K Cf) (Y : Fol P w K mg base Cf) : FnOk P w K mg base CX0 6 f fd ["self", "other"] (spAdd K Cf) := by
  refine F.ok scFoldingAdd (fun vs H Q E h => ?_) (fun cdv A outer s H vs Q E hr h => ?_)
  · obtain ⟨o1, r1, o2, r2, s1, s2, rfl, _⟩ := h
    rfl
  · obtain ⟨o1, r1, o2, r2, s1, s2, rfl, F1, F2, h6, q⟩ := h
    obtain ⟨fi, fdi, M, FI, bI⟩ := Y.made
    refine ⟨_, pss_cons (ps_if (pt_not (pt_val (pe_callB call_isi (by rfl) T.isi (by decide +kernel) (pa_cons (pv 1) (pa_cons (pe_glob (v := .ref Cf) rfl Z.mgC rfl) pa_nil))))) pss_never pss_nil)
      (pss_one (ps_ret (pe_make M FI hr rfl Z.mgC bI .nil pass0 (pa_cons (pe_op op_catA (pe_fld (pv 0) rfl) (pe_fld (pv 1) rfl)) pa_nil)))), ?_⟩
    obtain ⟨⟨d1, e1⟩, R1, l1⟩ := id F1
    obtain ⟨⟨d2, e2⟩, R2, l2⟩ := id F2
    refine ⟨_, rfl, _, _, .ref Cf, .ref Cf, true, rfl, .own Cf, .base (.ins e2 IC.cl IC.ha IC.hn IC.htk IC.hm), IC.me, true, rfl, iteF ?_⟩
    refine ⟨_, rfl, o1, Cf, d1, _, _, rfl, e1, Z.cl, Z.nS, rfl, _, rfl, o2, Cf, d2, _, _, rfl, e2, Z.cl, Z.nS, rfl, ?_⟩
    refine row_cat R1 R2 (by omega) fun r' H1 k1 R' x dx hx hdx ne => ?_
    refine made_ask R' (by rw [List.length_append]; omega) hx hdx ne fun H2 F2' k2 => ⟨rfl, q x r' H2 (k1.trans k2) F2'⟩
end
end Pd

set_option maxHeartbeats 4000000
namespace Pd
open PySem PySem.Spec PyProof.Rows L2 SX
/-! ### the third family of drawing defs -/
section
variable {P : Program} {w : World} {K : PySem.W.Frag} {mg : Str → Option Value} {base : Heap}
theorem ok_cwell {f : Addr} {fd : FuncData} (F : Fun K "_law_well" "_law_well" sLawWell f fd) (T : Nms mg) : FnOk P w K mg base CX0 1 f fd ["script", "k"] (spJar K) := by
  refine F.ok scLawWell (fun vs H Q E h => ?_) (fun cdv A outer s H vs Q E hr h => ?_)
  · obtain ⟨a, ns, k, rfl, _⟩ := h
    rfl
  · obtain ⟨a, ns, k, rfl, hS, hl, hk0, hk1, q⟩ := h
    have nd := scLawWell.nd
    have pw : ∀ e : Int, 0 ≤ e → e ≤ 1000 → CPowW 10 e := fun e h0 h1 => powW_ok2 (a := 4) (by decide) (by decide) h0 h1 (by decide)
    refine ⟨_, pss_cons (ps_set (i := 2) nd rfl (Or.inl rfl) pe_int)
      (C8.pss_cut (ps_if (pt_cmpR op_lt (pv 1) (pe_callB call_len_seq (by rfl) T.len PySem.boot_len (pa_cons (pv 0) pa_nil)) (nomark _))
        (pss_one (ps_set (i := 2) nd rfl (Or.inl rfl) (pe_callTy call_int1 (by rfl) T.int (by decide +kernel) (pa_cons (pe_ix ix_list (pv 0) (pv 1) (fun _ _ => rfl)) pa_nil)))) pss_nil)
      (pss_one (ps_ret (pe_lst (pa_cons (pe_callB (call_max2 rfl) (by rfl) T.max (by decide +kernel) (pa_cons pe_int (pa_cons (pe_op op_sub (pe_callB call_abs (by rfl) T.abs (by decide +kernel) (pa_cons (pv 2) pa_nil)) (pe_op op_powW pe_int pe_int)) pa_nil)))
        (pa_cons (pe_op op_add (pe_op op_mod (pe_callTy call_int1 (by rfl) T.int (by decide +kernel) (pa_cons (pv 2) pa_nil)) pe_int) (pe_op op_mul pe_int (pv 1)))
        (pa_cons pe_int pa_nil))))))), ?_⟩
    refine ⟨fun σ' H' => H' = H ∧ ∃ c : Int, σ' = [some (.ref a), some (.int k), some (.int c)], ?_, ?_⟩
    · refine ⟨_, rfl, _, rfl, a, _, rfl, .inl hS, _, _, rfl, rfl, _, rfl, ite2 (fun hlt => ?_) (fun _ => ⟨rfl, 0, rfl⟩)⟩
      rw [List.length_map] at hlt
      have hlt' := of_decide_eq_true hlt
      have hkn : k.toNat < ns.length := by omega
      have hat : atI (ns.map V.int) k = some (.int (ns[k.toNat]'hkn)) := by
        have e : ((k.toNat : Nat) : Int) = k := by omega
        have z := atI_nat (xs := ns.map V.int) (j := k.toNat) (v := .int (ns[k.toNat]'hkn)) (by simp [hkn])
        rw [e] at z
        exact z
      exact ⟨_, rfl, _, rfl, a, _, _, _, rfl, rfl, hS, hat, .inl ⟨_, rfl, rfl, _, rfl⟩⟩
    · rintro σ' H' ⟨rfl, c, rfl⟩
      refine ⟨_, rfl, _, rfl, _, _, rfl, rfl, pw 18 (by decide) (by decide), _, _, rfl, rfl, _, _, rfl, _, rfl, .inl ⟨_, rfl, _, _, rfl, rfl, (show (0:Int) < 162259276829213363391578010288127 by decide),
        _, rfl, _, _, rfl, rfl, .inl ⟨by decide, by decide⟩, _, _, rfl, rfl, by show 3 ≤ sizeLine; decide, fun l hl => ?_⟩⟩
      refine q l _ hl ⟨_, _, _, upd_same, ?_, ?_, ?_, by decide, by decide⟩ fun b o h => by rw [upd_ne (ne_of_none h hl)]; exact h
      · split <;> omega
      · omega
      · omega
theorem p6' : (10 : Int) ^ (6 : Int).toNat = 1000000 := by decide +kernel
theorem ok_cdraw {f : Addr} {fd : FuncData} (F : Fun K "_law_draw" "_law_draw" sLawDraw f fd) (T : Nms mg) : FnOk P w K mg base CX0 1 f fd ["well", "many"] spDraw := by
  refine F.ok scLawDraw (fun vs H Q E h => ?_) (fun cdv A outer s H vs Q E hr h => ?_)
  · obtain ⟨j, m, n, rfl, _⟩ := h
    rfl
  · obtain ⟨j, m, n, rfl, hJ, hn, hm1, hm2, q⟩ := h
    have nd := scLawDraw.nd
    obtain ⟨a, b, c, hj, ha, hb0, hb, hc0, hc⟩ := hJ
    have S : ∀ {H : Hp} {xs : List V}, H j = some (.lst xs) → SqL K H j xs := fun h => SqL.of h
    refine ⟨_, pss_cons (ps_if (pt_cmpR op_gt (pe_ix ix_list (pv 0) pe_int (fun _ _ => rfl)) pe_int (nomark _))
        (pss_cons (ps_set (i := 2) nd rfl (Or.inl rfl) (pe_op op_mod (pe_callTy call_int1 (by rfl) T.int (by decide +kernel) (pa_cons (pe_ix ix_list (pv 0) pe_int (fun _ _ => rfl)) pa_nil)) (pv 1)))
        (pss_cons (ps_asg (pe_op op_fdivW (pe_ix ix_list (pv 0) pe_int (fun _ _ => rfl)) (pv 1)) (pg_sub (pv 0) pe_int set_list))
        (pss_one (ps_ret (pv 2))))) pss_nil)
      (pss_cons (ps_asg (pe_op op_add (pe_ix ix_list (pv 0) pe_int (fun _ _ => rfl)) pe_int) (pg_sub (pv 0) pe_int set_list))
      (pss_cons (ps_set (i := 3) nd rfl (Or.inl rfl) (pe_op op_mod (pe_callTy call_int1 (by rfl) T.int (by decide +kernel) (pa_cons
          (pe_op op_powW (pe_op op_add (pe_ix ix_list (pv 0) pe_int (fun _ _ => rfl)) (pe_op op_mul pe_int (pe_ix ix_list (pv 0) pe_int (fun _ _ => rfl)))) pe_int) pa_nil)) pe_int))
      (pss_cons (ps_set (i := 3) nd rfl (Or.inl rfl) (pe_op op_mod (pe_callTy call_int1 (by rfl) T.int (by decide +kernel) (pa_cons
          (pe_op op_powW (pe_op op_add (pv 3) (pe_op op_mul pe_int (pe_ix ix_list (pv 0) pe_int (fun _ _ => rfl)))) pe_int) pa_nil)) pe_int))
      (pss_one (ps_ret (pe_op op_mod (pe_callTy call_int1 (by rfl) T.int (by decide +kernel) (pa_cons (pe_op op_fdivW (pv 3) (pe_op op_powW pe_int pe_int)) pa_nil)) (pv 1))))))), ?_⟩
    have pw : ∀ e : Int, 0 ≤ e → e ≤ 1000 → CPowW 10 e := fun e h0 h1 => powW_ok2 (a := 4) (by decide) (by decide) h0 h1 (by decide)
    have m20 : m.natAbs < 2 ^ 200 := by
      have : (2:Nat)^200 = 1606938044258990275541962092341162602522202993782792835301376 := by decide +kernel
      omega
    refine ⟨_, rfl, j, _, 0, _, rfl, rfl, S hj, rfl, _, _, rfl, rfl, _, rfl, ite2 (fun hlt => ?_) (fun hlt => ?_)⟩
    · refine ⟨_, rfl, j, _, 0, _, rfl, rfl, S hj, rfl, .inl ⟨_, rfl, _, rfl, _, _, rfl, rfl, (show 0 < m by omega), ?_⟩⟩
      refine ⟨_, rfl, j, _, 0, _, rfl, rfl, S hj, rfl, _, rfl, _, _, rfl, rfl, wide_div (by omega) m20 (by decide) (by decide), ?_⟩
      refine ⟨_, rfl, j, _, 0, 0, rfl, rfl, hj, rfl, _, rfl, ?_⟩
      refine q _ _ (Int.emod_nonneg _ (by omega)) (Int.emod_lt_of_pos _ (by omega)) ⟨a / m, b, c, upd_same, Int.ediv_nonneg ha (by omega), hb0, hb, hc0, by omega⟩ .upd
    · refine ⟨_, rfl, j, _, 2, _, rfl, rfl, S hj, rfl, _, _, rfl, rfl, _, rfl, j, _, 2, 2, rfl, rfl, hj, rfl, ?_⟩
      have hj2 : (L2.upd H j (.lst [V.int a, V.int b, V.int (c + 1)])) j = some (.lst [V.int a, V.int b, V.int (c + 1)]) := upd_same
      show tSeq _ _ _ _ (L2.upd H j (.lst [V.int a, V.int b, V.int (c + 1)]))
      have l140 : (2:Nat)^140 = 1393796574908163946345982392040522594123776 := by decide +kernel
      refine ⟨_, rfl, j, _, 1, _, rfl, rfl, S hj2, rfl, _, rfl, j, _, 2, _, rfl, rfl, S hj2, rfl, _, _, rfl, rfl, .inl ⟨by decide, by decide⟩, _, _, rfl, rfl, _, _, rfl, rfl, powW_ok2 (a := 140) (by rw [l140]; omega) (by decide) (by decide) (by decide) (by decide),
        .inl ⟨_, rfl, _, _, rfl, rfl, (show (0:Int) < 618970019642690137449562111 by decide), ?_⟩⟩
      generalize hs : ((b + 99991 * (c + 1)) ^ Int.toNat 3) % 618970019642690137449562111 = st
      have hs0 : 0 ≤ st := by rw [← hs]; exact Int.emod_nonneg _ (by decide)
      have hs1 : st < 618970019642690137449562111 := by rw [← hs]; exact Int.emod_lt_of_pos _ (by decide)
      refine ⟨_, rfl, _, rfl, j, _, 2, _, rfl, rfl, S hj2, rfl, _, _, rfl, rfl, .inl ⟨by decide, by decide⟩, _, _, rfl, rfl, _, _, rfl, rfl, powW_ok2 (a := 140) (by rw [l140]; omega) (by decide) (by decide) (by decide) (by decide),
        .inl ⟨_, rfl, _, _, rfl, rfl, (show (0:Int) < 2305843009213693951 by decide), ?_⟩⟩
      refine ⟨_, rfl, _, _, rfl, rfl, pw 6 (by decide) (by decide), _, _, rfl, rfl, wide_div (b := 200) (by rw [p6']; decide) (by rw [p6']; decide +kernel) (by decide) (by decide), .inl ⟨_, rfl, _, rfl, _, _, rfl, rfl, (show 0 < m by omega), ?_⟩⟩
      exact q _ _ (Int.emod_nonneg _ (by omega)) (Int.emod_lt_of_pos _ (by omega)) ⟨a, b, c + 1, upd_same, ha, hb0, hb, by omega, by omega⟩ .upd
end
/-- five signs, in a list whose tokens are known and below b -/
structure FewAt (b : Nat) (H : Hp) (a : Addr) (gs : List Nat) : Prop where
  at_ : TxtsB b H a (gs.map sg)
  len : gs.length = 5
  ok : ∀ c ∈ gs, c ∈ CH
theorem FewAt.same {b : Nat} {H H' : Hp} {a : Addr} {gs : List Nat} (h : FewAt b H a gs) (e : H' a = H a) : FewAt b H' a gs := ⟨h.at_.same e, h.len, h.ok⟩
theorem FewAt.is {b : Nat} {H : Hp} {a : Addr} {gs : List Nat} (h : FewAt b H a gs) : ∃ o, H a = some (.frz o (.lst ((gs.map sg).map V.str))) := by
  obtain ⟨its, n, m, k, e, _⟩ := h.at_
  exact ⟨_, e⟩
theorem FewAt.ext {b : Nat} {H H' : Hp} {a : Addr} {gs : List Nat} (h : FewAt b H a gs) (k : Ext H H') : FewAt b H' a gs := by
  obtain ⟨o, e⟩ := h.is
  exact h.same ((k a _ e).trans e.symm)
theorem FewAt.ne {b : Nat} {H : Hp} {j a : Addr} {gs : List Nat} {xs : List V} (h : FewAt b H a gs) (hj : H j = some (.lst xs)) : a ≠ j := by
  obtain ⟨o, e⟩ := h.is
  rintro rfl; rw [e] at hj; cases hj
theorem FewAt.kp {b : Nat} {H H' : Hp} {j a : Addr} {gs : List Nat} {xs : List V} (h : FewAt b H a gs) (k : Kp j H H') (hj : H j = some (.lst xs)) : FewAt b H' a gs := by
  obtain ⟨o, e⟩ := h.is
  exact h.same ((k a _ (h.ne hj) e).trans e.symm)
theorem FewAt.item {b : Nat} {H : Hp} {a : Addr} {gs : List Nat} (h : FewAt b H a gs) {r : Int} (h0 : 0 ≤ r) (h1 : r < 5) : ∃ c ∈ CH, (gs.map sg)[r.toNat]? = some (sg c) := by
  have e : r.toNat < gs.length := by rw [h.len]; omega
  exact ⟨gs[r.toNat], h.ok _ (List.getElem_mem e), by simp [e]⟩
theorem FewAt.item' {b : Nat} {H : Hp} {a : Addr} {gs : List Nat} (h : FewAt b H a gs) {r : Int} (h0 : 0 ≤ r) (h1 : r < 5) : ∃ c ∈ CH, atI ((gs.map sg).map V.str) r = some (.str (sg c)) := by
  obtain ⟨c, hc, e⟩ := h.item h0 h1
  refine ⟨c, hc, ?_⟩
  have z := atI_nat (xs := (gs.map sg).map V.str) (j := r.toNat) (v := .str (sg c)) (by rw [List.getElem?_map, e]; rfl)
  have e2 : ((r.toNat : Nat) : Int) = r := by omega
  rw [e2] at z
  exact z
theorem FewAt.len' {b : Nat} {H : Hp} {a : Addr} {gs : List Nat} (h : FewAt b H a gs) : (((gs.map sg).map V.str).length : Int) = 5 := by
  rw [List.length_map, List.length_map, h.len]; rfl
theorem FewAt.seq {K : PySem.W.Frag} {b : Nat} {H : Hp} {a : Addr} {gs : List Nat} (h : FewAt b H a gs) : SqL K H a ((gs.map sg).map V.str) := h.at_.txts.seq
/-- a step whose text, if it is one of once, has a token below b -/
def StpB (b : Nat) (H : Hp) (p : Addr) (st : Stp) : Prop := StpAt H p st ∧ ∀ a, st = .once a → OnceB b H p (sg a)
theorem StpB.same {b : Nat} {H H' : Hp} {p : Addr} {st : Stp} (h : StpB b H p st) (e : ∀ o, H p = Option.some o → H' p = Option.some o) : StpB b H' p st :=
  ⟨h.1.same e, fun a ea => by
    obtain ⟨n, t0, t, e1, r⟩ := h.2 a ea
    exact ⟨n, t0, t, e _ e1, r⟩⟩
theorem StpB.ext {b : Nat} {H H' : Hp} {p : Addr} {st : Stp} (h : StpB b H p st) (k : Ext H H') : StpB b H' p st := h.same fun o x => k p o x
theorem StpB.kp {b : Nat} {H H' : Hp} {j p : Addr} {st : Stp} {xs : List V} (h : StpB b H p st) (k : Kp j H H') (hj : H j = Option.some (.lst xs)) : StpB b H' p st := h.same fun o x => k p o (by
  rintro rfl
  obtain ⟨o', x', ne⟩ := h.1.some
  rw [hj] at x'; cases x'
  exact ne _ rfl) x
inductive AlB (b : Nat) (H : Hp) : List Addr → List Stp → Prop where
  | nil : AlB b H [] []
  | cons {p : Addr} {st : Stp} {ps : List Addr} {sts : List Stp} (h : StpB b H p st) (ok : st.ok) (r : AlB b H ps sts) : AlB b H (p :: ps) (st :: sts)
section
variable {b : Nat} {H H' : Hp}
theorem AlB.al : ∀ {ps : List Addr} {sts : List Stp}, AlB b H ps sts → Al H ps sts
  | _, _, .nil => .nil
  | _, _, .cons h ok r => .cons h.1 ok r.al
theorem AlB.ext (k : Ext H H') : ∀ {ps : List Addr} {sts : List Stp}, AlB b H ps sts → AlB b H' ps sts
  | _, _, .nil => .nil
  | _, _, .cons h ok r => .cons (h.ext k) ok (r.ext k)
theorem AlB.kp {j : Addr} {xs : List V} (k : Kp j H H') (hj : H j = some (.lst xs)) : ∀ {ps : List Addr} {sts : List Stp}, AlB b H ps sts → AlB b H' ps sts
  | _, _, .nil => .nil
  | _, _, .cons h ok r => .cons (h.kp k hj) ok (r.kp k hj)
theorem AlB.take : ∀ {ps : List Addr} {sts : List Stp} (k : Nat), AlB b H ps sts → AlB b H (ps.take k) (sts.take k)
  | _, _, 0, _ => by rw [List.take_zero, List.take_zero]; exact .nil
  | _, _, k + 1, .nil => .nil
  | _, _, k + 1, .cons h ok r => .cons h ok (r.take k)
theorem AlB.drop : ∀ {ps : List Addr} {sts : List Stp} (k : Nat), AlB b H ps sts → AlB b H (ps.drop k) (sts.drop k)
  | _, _, 0, h => h
  | _, _, k + 1, .nil => .nil
  | _, _, k + 1, .cons h ok r => r.drop k
theorem AlB.append : ∀ {ps qs : List Addr} {sts tts : List Stp}, AlB b H ps sts → AlB b H qs tts → AlB b H (ps ++ qs) (sts ++ tts)
  | _, _, _, _, .nil, h => h
  | _, _, _, _, .cons h ok r, q => .cons h ok (r.append q)
theorem AlB.get : ∀ {ps : List Addr} {sts : List Stp} {i : Nat} {p : Addr}, AlB b H ps sts → ps[i]? = some p → ∃ st, sts[i]? = some st ∧ StpB b H p st ∧ st.ok
  | _, _, _, _, .nil, e => by simp at e
  | _, _, 0, _, .cons h ok r, e => by
    simp at e; subst e
    exact ⟨_, by simp, h, ok⟩
  | _, _, i + 1, _, .cons h ok r, e => by
    obtain ⟨st, e1, h1⟩ := r.get (i := i) (by simpa using e)
    exact ⟨st, by simpa using e1, h1⟩
end
def RowB (K : PySem.W.Frag) (b : Nat) (H : Hp) (r : Addr) (sts : List Stp) : Prop := ∃ ps : List Addr, SqT K H r (ps.map V.ref) ∧ AlB b H ps sts
section
variable {K : PySem.W.Frag} {b : Nat} {H H' : Hp} {r t : Addr} {sts s1 s2 : List Stp}
theorem RowB.row (h : RowB K b H r sts) : RowAt K H r sts := by
  obtain ⟨ps, e, a⟩ := h
  exact ⟨ps, e, a.al⟩
theorem RowB.ext (h : RowB K b H r sts) (k : Ext H H') : RowB K b H' r sts := by
  obtain ⟨ps, e, a⟩ := h
  exact ⟨ps, sqT_keep e (fun o x => k r o x), a.ext k⟩
theorem RowB.kp {j : Addr} {xs : List V} (h : RowB K b H r sts) (k : Kp j H H') (hj : H j = some (.lst xs)) : RowB K b H' r sts := by
  obtain ⟨ps, e, a⟩ := h
  exact ⟨ps, sqT_noLst e k hj, a.kp k hj⟩
theorem RowB.ok (h : RowB K b H r sts) : ∀ st ∈ sts, st.ok := by
  obtain ⟨ps, _, a⟩ := h
  exact a.al.ok
theorem rowB_take {σ : L2.St} {k : Int} {Q : VK} (hR : RowB K b H r sts) (h0 : 0 ≤ k) (q : ∀ r' H', Ext H H' → RowB K b H' r' (sts.take k.toNat) → Q (.ref r') H') : rSlA K (.ref r) none (some k) H Q := by
  obtain ⟨ps, hp, al⟩ := hR
  have ek : k = ((k.toNat : Nat) : Int) := by omega
  have hl : (ps.map V.ref).length = ps.length := List.length_map _
  have alen := al.al.len
  refine ⟨r, _, rfl, hp, fun hw => ?_, fun hw p np => ?_⟩
  · have e := hw.2
    rw [ek, HT.sIx_nat, hl] at e
    refine q r H .refl ⟨ps, hp, ?_⟩
    rw [List.take_of_length_le (by omega)]
    exact al
  · refine q p _ (Ext.refl.new np) ⟨ps.take k.toNat, SqT.of ?_, (al.take _).ext (Ext.refl.new np)⟩
    rw [upd_same]
    unfold cutV
    rw [ek, HT.sIx_nat, HT.sIx_none, List.drop_zero, Nat.sub_zero, List.map_take, hl]
    congr 2
    by_cases h : k.toNat ≤ ps.length
    · rw [Nat.min_eq_left (by omega)]; rw [Int.toNat_natCast]
    · rw [Nat.min_eq_right (by omega), List.take_of_length_le (by rw [hl]; omega), List.take_of_length_le (by rw [hl]; omega)]
theorem rowB_drop {σ : L2.St} {k : Int} {Q : VK} (hR : RowB K b H r sts) (h0 : 0 ≤ k) (q : ∀ r' H', Ext H H' → RowB K b H' r' (sts.drop k.toNat) → Q (.ref r') H') : tNoPart σ H fun u H3 => rSlA K (.ref r) (some k) u H3 Q := by
  obtain ⟨ps, hp, al⟩ := hR
  have ek : k = ((k.toNat : Nat) : Int) := by omega
  have hl : (ps.map V.ref).length = ps.length := List.length_map _
  have alen := al.al.len
  show rSlA K (.ref r) (some k) none H Q
  refine ⟨r, _, rfl, hp, fun hw => ?_, fun hw p np => ?_⟩
  · have e := hw.1
    rw [ek, HT.sIx_nat, hl] at e
    by_cases hk : k.toNat = 0
    · refine q r H .refl ⟨ps, hp, ?_⟩
      rw [hk]
      exact al
    · have e3 : ps = [] := List.eq_nil_of_length_eq_zero (by omega)
      subst e3
      have e4 : sts = [] := List.eq_nil_of_length_eq_zero (by rw [← alen]; rfl)
      subst e4
      refine q r H .refl ⟨[], hp, ?_⟩
      rw [List.drop_nil]
      exact .nil
  · refine q p _ (Ext.refl.new np) ⟨ps.drop k.toNat, SqT.of ?_, (al.drop _).ext (Ext.refl.new np)⟩
    rw [upd_same]
    unfold cutV
    rw [ek, HT.sIx_nat, HT.sIx_none, List.map_drop, hl, Int.toNat_natCast]
    congr 2
    by_cases h : k.toNat ≤ ps.length
    · rw [Nat.min_eq_left (by omega), List.take_of_length_le (by rw [List.length_drop, hl]; omega)]
    · rw [Nat.min_eq_right (by omega), Nat.sub_self, List.take_zero, List.drop_eq_nil_of_le (by rw [hl]; omega)]
theorem rowB_cat {Q : VK} (h1 : RowB K b H r s1) (h2 : RowB K b H t s2) (hl : s1.length + s2.length ≤ 1000) (q : ∀ r' H', Ext H H' → RowB K b H' r' (s1 ++ s2) → Q (.ref r') H') : rCatA K (.ref r) (.ref t) H Q := by
  obtain ⟨ps, hp, al⟩ := h1
  obtain ⟨qs, hq, bl⟩ := h2
  have l1 := al.al.len
  have l2 := bl.al.len
  have n1 : ps.map V.ref = [] → s1 = [] := fun e => by
    rw [List.map_eq_nil_iff.mp e] at l1
    exact List.eq_nil_of_length_eq_zero l1.symm
  have n2 : qs.map V.ref = [] → s2 = [] := fun e => by
    rw [List.map_eq_nil_iff.mp e] at l2
    exact List.eq_nil_of_length_eq_zero l2.symm
  refine ⟨r, t, _, _, rfl, rfl, hp, hq, ?_, fun e => ?_, fun _ e => ?_, fun _ _ p np => ?_⟩
  · rw [List.length_map, List.length_map, l1, l2, sizeLine_eq]; omega
  · rw [n1 e, List.nil_append] at q
    exact q t H .refl ⟨qs, hq, bl⟩
  · rw [n2 e, List.append_nil] at q
    exact q r H .refl ⟨ps, hp, al⟩
  · refine q p _ (Ext.refl.new np) ⟨ps ++ qs, SqT.of ?_, (al.append bl).ext (Ext.refl.new np)⟩
    rw [upd_same, List.map_append]
end
inductive RwB (K : PySem.W.Frag) (b : Nat) (H : Hp) : List Addr → List (List Stp) → Prop where
  | nil : RwB K b H [] []
  | cons {r : Addr} {sts : List Stp} {rs : List Addr} {rws : List (List Stp)} (h : RowB K b H r sts) (l : sts.length ≤ 6) (t : RwB K b H rs rws) : RwB K b H (r :: rs) (sts :: rws)
section
variable {K : PySem.W.Frag} {b : Nat} {H H' : Hp}
theorem RwB.ext (k : Ext H H') : ∀ {rs : List Addr} {rws : List (List Stp)}, RwB K b H rs rws → RwB K b H' rs rws
  | _, _, .nil => .nil
  | _, _, .cons h l t => .cons (h.ext k) l (t.ext k)
theorem RwB.kp {j : Addr} {ys : List V} (hj : H j = some (.lst ys)) (k : Kp j H H') : ∀ {rs : List Addr} {rws : List (List Stp)}, RwB K b H rs rws → RwB K b H' rs rws
  | _, _, .nil => .nil
  | _, _, .cons h l t => .cons (h.kp k hj) l (t.kp hj k)
theorem RwB.snoc {r : Addr} {sts : List Stp} (h : RowB K b H r sts) (l : sts.length ≤ 6) : ∀ {rs : List Addr} {rws : List (List Stp)}, RwB K b H rs rws → RwB K b H (rs ++ [r]) (rws ++ [sts])
  | _, _, .nil => .cons h l .nil
  | _, _, .cons h' l' t => .cons h' l' (t.snoc h l)
theorem RwB.len : ∀ {rs : List Addr} {rws : List (List Stp)}, RwB K b H rs rws → rs.length = rws.length
  | _, _, .nil => rfl
  | _, _, .cons _ _ t => congrArg (· + 1) t.len
theorem RwB.get : ∀ {rs : List Addr} {rws : List (List Stp)} {i : Nat} {r : Addr}, RwB K b H rs rws → rs[i]? = some r → ∃ sts, rws[i]? = some sts ∧ RowB K b H r sts ∧ sts.length ≤ 6
  | _, _, _, _, .nil, e => by simp at e
  | _, _, 0, _, .cons h l t, e => by
    simp at e; subst e
    exact ⟨_, by simp, h, l⟩
  | _, _, i + 1, _, .cons h l t, e => by
    obtain ⟨sts, e1, h1⟩ := t.get (i := i) (by simpa using e)
    exact ⟨sts, by simpa using e1, h1⟩
theorem RwB.set : ∀ {rs : List Addr} {rws : List (List Stp)} {i : Nat} {r : Addr} {sts : List Stp}, RwB K b H rs rws → RowB K b H r sts → sts.length ≤ 6 → RwB K b H (rs.set i r) (rws.set i sts)
  | _, _, _, _, _, .nil, _, _ => .nil
  | _, _, 0, _, _, .cons h l t, h', l' => .cons h' l' t
  | _, _, i + 1, _, _, .cons h l t, h', l' => .cons h l (t.set h' l')
theorem RwB.rw : ∀ {rs : List Addr} {rws : List (List Stp)}, RwB K b H rs rws → Rw K H rs rws
  | _, _, .nil => .nil
  | _, _, .cons h l t => .cons h.row l t.rw
end
end Pd

set_option maxHeartbeats 4000000
namespace Pd
open PySem PySem.Spec PyProof.Rows L2 SX
def spFew : SpU := fun vs H Q => ∃ (j : Addr) (n : Nat), vs = [.ref j] ∧ JarAt H j n ∧ n + 10 < 1000000 ∧
  ∀ b p gs H', H p = none → FewAt b H' p gs → JarAt H' j (n + 10) → Kp j H H' → Q b (.ref p) H'
def spCstep : Sp := fun vs H Q _ => ∃ (j a : Addr) (n : Nat) (gs : List Nat) (b : Nat) (m : Int), vs = [.ref j, .ref a, .int m] ∧ JarAt H j n ∧ FewAt b H a gs ∧ 1 ≤ m ∧ m ≤ 9 ∧ n + 20 < 1000000 ∧
  ∀ p st H', H p = none → st.ok → StpB b H' p st → JarAt H' j (n + 20) → Kp j H H' → Q (.ref p) H'
section
variable {P : Program} {w : World} {K : PySem.W.Frag} {mg : Str → Option Value} {base : Heap}
theorem ok_few {f : Addr} {fd : FuncData} (F : Fun K "_law_few" "_law_few" sLawFew f fd) (D : Cl P w K mg base 1 "_law_draw" spDraw) (G : ClT P w K mg base 2 "_law_sign" spSign) : FnU P w K mg base 3 f spFew := by
  refine fnU_of F scLawFew (fun kV doc pm an cdv ct us hl => match us, hl with | [_], _ => rfl) (fun vs H Q h => ?_) (fun cdv A outer s H vs Q E hr h => ?_)
  · obtain ⟨j, n, rfl, _⟩ := h
    rfl
  · obtain ⟨j, n, rfl, hJ, hn, q⟩ := h
    have nd := scLawFew.nd
    refine ⟨_, pss_few (il := 1) (hN := nd) (hl := rfl) (ll := rfl) (h0 := pe_cl D hr (by decide) rfl (pa_cons (pv 0) (pa_cons pe_int pa_nil))) (s1 := fun _ _ => rfl)
      (h1 := pef_cl G hr (by decide) rfl (pa_cons (pv 0) pa_nil)) (h2 := pef_cl G hr (by decide) rfl (pa_cons (pv 0) pa_nil)) (h3 := pef_cl G hr (by decide) rfl (pa_cons (pv 0) pa_nil)) (dl := by decide) (hs1 := rfl) (hst := rfl) (hbase := rfl) (hline := rfl), ?_⟩
    refine ⟨_, rfl, j, 26, n, rfl, hJ, by omega, by decide, by decide, fun r H1 h0 h1 J1 k1 => ?_⟩
    have e1 : r.toNat < (CH.take 26).length := by show r.toNat < 26; omega
    refine ⟨r, (CH.take 26)[r.toNat], rfl, h0, by rw [abc_S, S_len]; show r < 26; omega, by rw [abc_S, S_len]; decide, by rw [abc_S]; exact S_at e1, ?_⟩
    obtain ⟨c1, c2, c3⟩ := small_CH _ (List.getElem_mem e1)
    generalize (CH.take 26)[r.toNat] = x at c1 c2 c3 ⊢
    refine ⟨sg x, rfl, by show 1 ≤ 1000; decide, ?_⟩
    refine ⟨_, rfl, j, _, rfl, J1, by omega, fun d1 H2 hd1 J2 k2 => ⟨sg d1, rfl, ?_⟩⟩
    refine ⟨_, rfl, j, _, rfl, J2, by omega, fun d2 H3 hd2 J3 k3 => ⟨sg d2, rfl, ?_⟩⟩
    refine ⟨_, rfl, j, _, rfl, J3, by omega, fun d3 H4 hd3 J4 k4 => ⟨sg d3, rfl, fun b p H5 np ht hs5 => ?_⟩⟩
    have k14 := ((k1.trans k2).trans k3).trans k4
    obtain ⟨xs0, hx0⟩ := hJ.lst
    obtain ⟨xs4, hx4⟩ := J4.lst
    have k5 : Ext H4 H5 := fun c o e => (hs5 c (ne_of_none e np)).trans e
    refine q b p [x, up1 x, d1, d2, d3] H5 (k14.none np ⟨_, hx0⟩ J4.lst) ⟨?_, rfl, ?_⟩ ((J4.ext k5).le (by omega)) (k14.trans k5.kp)
    · have e : [sg x, Txt.upper (sg x), sg d1, sg d2, sg d3] = [x, up1 x, d1, d2, d3].map sg := by rw [upper_sg c2]; rfl
      rw [← e]; exact ht
    · intro c hc
      simp only [List.mem_cons, List.mem_nil_iff, or_false] at hc
      rcases hc with rfl | rfl | rfl | rfl | rfl <;> assumption
theorem peh_cl {X : Cx} {k j : Nat} {x : Str} {sp : Sp} {e : Expr} {es : List Expr} {tl : TA} {p pos : Pos} (c : Cl X.prog X.w X.K X.mg X.base k x sp) (hr : Room j X.A) (hk : k ≤ j) (hg : Gl X x) (ha : PAH X (e :: es) tl)
    (hdb : (x == ("__debug__" : Str)) = false := by decide) (he : starEach (e :: es) X.env = (false, eval e X.env) :: starEach es X.env := by rfl) (hpl : (backTo pos (starEach es X.env)).any (·.1) = false := by rfl) :
    PEH X (.Call (.Name x p) (e :: es) [] pos) (tCall sp [] E0 tl) := by
  obtain ⟨f, fd, ps, F, hm, kp, b⟩ := c.ex
  exact peh_call (by have z := FnOk.raw F b .nil; simp only [List.append_nil] at z; exact z) (hr.mono hk) hg hm kp ha hdb he hpl
theorem ok_cstep {f : Addr} {fd : FuncData} (F : Fun K "_law_step" "_law_step" sLawStep f fd) (T : Nms mg) (D : Cl P w K mg base 1 "_law_draw" spDraw) : FnOk P w K mg base CX0 2 f fd ["well", "few", "longest"] spCstep := by
  refine F.ok scLawStep (fun vs H Q E h => ?_) (fun cdv A outer s H vs Q E hr h => ?_)
  · obtain ⟨j, a, n, gs, b, m, rfl, _⟩ := h
    rfl
  · obtain ⟨j, a, n, gs, b, m, rfl, hJ, hG, hm1, hm9, hn, q⟩ := h
    have nd := scLawStep.nd
    refine ⟨_, pss_six (iw := 3) (io := 4) (it := 5) (ic := 9) (ig := 1) (hc := rfl) (hN := nd) (hw := rfl) (ho := rfl) (ht := rfl) (hcu := rfl) (hg := rfl) (n1 := by decide) (n2 := by decide) (n3 := by decide) (n4 := by decide) (n5 := by decide) (n6 := by decide)
      (lw := rfl) (lo := rfl) (lt := rfl) (lc := rfl) (lg := rfl)
      (h1 := pe_cl D hr (by decide) rfl (pa_cons (pv 0) (pa_cons pe_int pa_nil)))
      (hi := pe_cl D hr (by decide) rfl (pa_cons (pv 0) (pa_cons (pe_callB call_len_seq (by rfl) T.len PySem.boot_len (pa_cons (pv 1) pa_nil)) pa_nil)))
      (hi2 := pe_cl D hr (by decide) rfl (pa_cons (pv 0) (pa_cons (pe_callB call_len_seq (by rfl) T.len PySem.boot_len (pa_cons (pv 1) pa_nil)) pa_nil)))
      (p1 := fun _ _ => rfl) (p2 := fun _ _ => rfl)
      (h0 := pss_cons (ps_set (i := 6) nd rfl (Or.inl rfl) (pv 4))
        (pss_cons (ps_for PassesOwn.never rfl (pi_range1 rfl T.range (pa_cons (pe_cl D hr (by decide) rfl (pa_cons (pv 0) (pa_cons pe_int pa_nil))) pa_nil)) (pg_name (i := 7) nd rfl (Or.inl rfl))
          (pss_cons (ps_set (i := 8) nd rfl (Or.inl rfl) (pe_ix ix_list (pv 1) (pe_cl D hr (by decide) rfl (pa_cons (pv 0) (pa_cons (pe_callB call_len_seq (by rfl) T.len PySem.boot_len (pa_cons (pv 1) pa_nil)) pa_nil))) (fun _ _ => rfl)))
          (pss_one (ps_if (pt_cmpR op_notIn_sign (pv 8) (pv 6) rfl) (pss_one (ps_set (i := 6) nd rfl (Or.inl rfl) (pe_op op_add_str (pv 6) (pv 8)))) pss_nil))))
        (pss_one (ps_ret (pe_tup (pa_cons pe_str (pa_cons (pv 6) pa_nil)))))))
      (hec := peh_add peh_int (peh_cl D hr (by decide) rfl (pah_cons (peh_local (i := 0) rfl rfl) (pah_cons (peh_local (i := 2) rfl rfl) pah_nil))))
      (dw := by decide) (dO := by decide) (dt := by decide) (dc := by decide) (dg := by decide) (hst := rfl) (hsc := rfl) (hs1 := rfl) (hs2 := rfl) (hs3 := rfl) (hs4 := rfl) (hs6 := rfl) (hsw := rfl) (hss := rfl) (hcs := rfl) (pix := fun _ _ => rfl), ?_⟩
    have hj0 := hJ.lst
    obtain ⟨xs0, hx0⟩ := id hj0
    have fw : ∀ {H' : Hp}, Kp j H H' → FewAt b H' a gs := fun k => hG.kp k hx0
    have aj : a ≠ j := hG.ne hx0
    have same : ∀ {H1 H2 : Hp}, Kp j H H1 → Kp j H1 H2 → H2 a = H1 a := fun {H1 H2} k1 k2 => by
      obtain ⟨o, e⟩ := (fw k1).is
      exact (k2 a _ aj e).trans e.symm
    have new : ∀ {H3 : Hp} {p : Addr} {o : HO}, Kp j H H3 → JarAt H3 j (n + 20) → H3 p = none → H p = none ∧ JarAt (L2.upd H3 p o) j (n + 20) ∧ Kp j H (L2.upd H3 p o) := fun {H3 p o} k J hp =>
      ⟨k.none hp hj0 J.lst, J.new hp, k.new hp⟩
    refine ⟨_, rfl, j, 6, n, rfl, hJ, by omega, by decide, by decide, fun r H1 h0 h1 J1 k1 => ?_⟩
    have S1 := fw k1
    refine ⟨r, a, gs.map sg, b, rfl, h0, h1, rfl, by rw [List.length_map, S1.len]; decide, S1.at_, _, rfl, _, rfl, a, _, rfl, .inl S1.seq, j, _, n + 1, rfl, J1, by omega, ?_, ?_, fun i H2 h02 h12 J2 k2 => ?_⟩
    · rw [S1.len']; decide
    · rw [S1.len']; decide
    rw [S1.len'] at h12
    have k12 := k1.trans k2
    have S2 := fw k12
    obtain ⟨c, hc, ec⟩ := S1.item h02 h12
    refine ⟨i, sg c, rfl, same k1 k2, h02, ec, _, rfl, _, rfl, a, _, rfl, .inl S2.seq, j, _, n + 1 + 1, rfl, J2, by omega, ?_, ?_, fun i2 H3 h03 h13 J3 k3 => ?_⟩
    · rw [S2.len']; decide
    · rw [S2.len']; decide
    rw [S2.len'] at h13
    have k13 := k12.trans k3
    obtain ⟨d, hd, ed⟩ := S2.item h03 h13
    refine ⟨i2, sg d, rfl, same k12 k3, h03, ed, fun e2 => ?_, fun e2 => ?_⟩
    · refine ⟨_, rfl, _, rfl, j, 4, _, rfl, J3, by omega, by decide, by decide, fun r2 H4 h04 h14 J4 k4 => ⟨_, rfl, by omega, by omega, ?_⟩⟩
      refine for_range (lo := 0) (n := r2.toNat) (fun i σ H' => ∃ (cs : List Nat) (u v : Option V), σ = [some (.ref j), some (.ref a), some (.int m), some (.int r), some (.str (sg c)), some (.str (sg d)), some (.str (S cs)), u, v, none] ∧ (∀ c ∈ cs, c ∈ CH) ∧ cs.Nodup ∧ 1 ≤ cs.length ∧ cs.length ≤ i + 1 ∧ JarAt H' j (n + 4 + i) ∧ Kp j H H')
        ⟨[c], none, none, rfl, (fun x h => by rw [List.mem_singleton.mp h]; exact hc), List.nodup_cons.mpr ⟨List.not_mem_nil, List.nodup_nil⟩, Nat.le_refl _, Nat.le_refl _, J4, k13.trans k4⟩ ?_ ?_
      · rintro i σ H5 hi ⟨cs, u, v, rfl, hcs, hnd, hc1, hcl, J5, k5⟩
        have S5 := fw k5
        refine ⟨_, rfl, _, rfl, _, rfl, a, _, rfl, .inl S5.seq, j, _, _, rfl, J5, by omega, ?_, ?_, fun i6 H6 h06 h16 J6 k6 => ?_⟩
        · rw [S5.len']; decide
        · rw [S5.len']; decide
        rw [S5.len'] at h16
        have S6 := fw (k5.trans k6)
        obtain ⟨g, hg, eg⟩ := S6.item' h06 h16
        refine ⟨a, _, i6, .str (sg g), rfl, rfl, S6.seq, eg, _, rfl, _, rfl, g, _, rfl, rfl, _, rfl, ?_⟩
        show if (!decide (g ∈ cs)) = true then _ else _
        by_cases hdl : g ∈ cs
        · rw [decide_eq_true hdl]
          exact iteF ⟨cs, _, _, rfl, hcs, hnd, hc1, by omega, J6.le (by omega), k5.trans k6⟩
        · rw [decide_eq_false hdl]
          refine iteT ⟨_, rfl, _, rfl, _, _, rfl, rfl, by rw [sg_S, S_len, S_len, sizeLine_eq]; simp; omega, ?_⟩
          rw [sg_S, S_cat]
          refine ⟨cs ++ [g], _, _, rfl, fun c hc => ?_, ?_, by rw [List.length_append]; simp, by rw [List.length_append]; simp; omega, J6.le (by omega), k5.trans k6⟩
          · rcases List.mem_append.mp hc with h | h
            · exact hcs c h
            · rw [List.mem_singleton.mp h]; exact hg
          · rw [List.nodup_append]
            refine ⟨hnd, List.nodup_cons.mpr ⟨List.not_mem_nil, List.nodup_nil⟩, fun x hx y hy => ?_⟩
            rw [List.mem_singleton.mp hy]
            rintro rfl
            exact hdl hx
      · rintro σ H5 ⟨cs, u, v, rfl, hcs, hnd, hc1, hcl, J5, k5⟩
        refine ⟨_, rfl, by show 2 ≤ sizeLine; decide, fun p hp => ?_⟩
        obtain ⟨a1, a2, a3⟩ := new (o := .tup [V.str "drop", V.str (S cs)]) k5 (J5.le (by omega)) hp
        exact q p (.drop cs) _ a1 ⟨hc1, by omega, hnd, hcs⟩ ⟨upd_same, fun _ z => nomatch z⟩ a2 a3
    · refine ⟨_, rfl, _, rfl, j, m, _, rfl, J3, by omega, by omega, by omega, fun r4 H4 h04 h14 J4 k4 => ⟨_, _, rfl, rfl, 1 + r4, rfl, fun p0 hp0 => ?_⟩⟩
      have k14 := k13.trans k4
      obtain ⟨b1, b2, b3⟩ := new (o := .tup [V.str "cut", V.int (1 + r4)]) k14 (J4.le (by omega)) hp0
      have n2 : ∀ {p : Addr} {o : HO}, p ≠ p0 → H4 p = none → H p = none ∧ JarAt (L2.upd (L2.upd H4 p0 (.tup [V.str "cut", V.int (1 + r4)])) p o) j (n + 20) ∧ Kp j H (L2.upd (L2.upd H4 p0 (.tup [V.str "cut", V.int (1 + r4)])) p o) := fun {p o} ne hp =>
        new b3 b2 (by rw [upd_ne ne]; exact hp)
      refine ⟨fun _ => ?_, fun p ne hp => ⟨fun _ => ?_, fun _ H6 sw hs6 => ?_, fun _ => ?_, fun _ H6 ob hs6 => ?_⟩⟩
      · refine q p0 (.cut (1 + r4).toNat) _ b1 ⟨by omega, by omega⟩ ⟨?_, fun _ z => nomatch z⟩ b2 b3
        show (L2.upd H4 p0 _) p0 = some (.tup [V.str "cut", V.int (((1 + r4).toNat : Nat) : Int)])
        rw [show (((1 + r4).toNat : Nat) : Int) = 1 + r4 by omega]
        exact upd_same
      · obtain ⟨a1, a2, a3⟩ := n2 (o := .tup [V.str "lower"]) ne hp
        exact q p .low _ a1 trivial ⟨upd_same, fun _ z => nomatch z⟩ a2 a3
      · have hp' : (L2.upd H4 p0 (.tup [V.str "cut", V.int (1 + r4)])) p = none := by rw [upd_ne ne]; exact hp
        obtain ⟨xs3, hx3⟩ := b2.lst
        have kk : Kp j H H6 := fun b' o hb hbo => (hs6 b' (ne_of_none (b3 b' o hb hbo) hp')).trans (b3 b' o hb hbo)
        refine q p (.swap c d) H6 (n2 (o := .tup []) ne hp).1 ⟨hc, hd⟩ ⟨sw, fun _ z => nomatch z⟩ (b2.kp (hs6 j (ne_of_none hx3 hp'))) kk
      · obtain ⟨a1, a2, a3⟩ := n2 (o := .tup [V.str "lead", V.str (sg c)]) ne hp
        exact q p (.lead c) _ a1 hc ⟨upd_same, fun _ z => nomatch z⟩ a2 a3
      · have hp' : (L2.upd H4 p0 (.tup [V.str "cut", V.int (1 + r4)])) p = none := by rw [upd_ne ne]; exact hp
        obtain ⟨xs3, hx3⟩ := b2.lst
        have kk : Kp j H H6 := fun b' o hb hbo => (hs6 b' (ne_of_none (b3 b' o hb hbo) hp')).trans (b3 b' o hb hbo)
        refine q p (.once c) H6 (n2 (o := .tup []) ne hp).1 hc ⟨(by obtain ⟨n0, t0, t1, e0, _⟩ := ob; exact .inr ⟨_, e0⟩), fun a' z => by cases z; exact ob⟩ (b2.kp (hs6 j (ne_of_none hx3 hp'))) kk
end
end Pd

set_option maxHeartbeats 4000000
namespace Pd
open PySem PySem.Spec PyProof.Rows L2 SX
def spCrow (K : PySem.W.Frag) : Sp := fun vs H Q _ => ∃ (j a : Addr) (n : Nat) (gs : List Nat) (b : Nat) (mo m : Int), vs = [.ref j, .ref a, .int mo, .int m] ∧ JarAt H j n ∧ FewAt b H a gs ∧ 0 ≤ mo ∧ mo ≤ 6 ∧ 1 ≤ m ∧ m ≤ 9 ∧ n + 200 < 1000000 ∧
  ∀ r sts H', H r = none → sts.length ≤ 6 → RowB K b H' r sts → JarAt H' j (n + 200) → Kp j H H' → Q (.ref r) H'
def spCnear (K : PySem.W.Frag) : Sp := fun vs H Q _ => ∃ (j a : Addr) (n : Nat) (gs : List Nat) (b : Nat) (r : Addr) (sts : List Stp) (m : Int), vs = [.ref j, .ref a, .ref r, .int m] ∧ JarAt H j n ∧ FewAt b H a gs ∧ RowB K b H r sts ∧ sts.length ≤ 6 ∧ 1 ≤ m ∧ m ≤ 9 ∧ n + 50 < 1000000 ∧
  ∀ r' sts' H', sts'.length ≤ 6 → RowB K b H' r' sts' → JarAt H' j (n + 50) → Kp j H H' → Q (.ref r') H'
/-- four rows in a list of their own, tokens below b -/
def FourB (K : PySem.W.Frag) (b : Nat) (H : Hp) (l : Addr) (rs : List Addr) (rws : List (List Stp)) : Prop := H l = some (.lst (rs.map V.ref)) ∧ RwB K b H rs rws ∧ rws.length = 4
def spCfour (K : PySem.W.Frag) : Sp := fun vs H Q _ => ∃ (j a : Addr) (n : Nat) (gs : List Nat) (b : Nat) (mo m : Int), vs = [.ref j, .ref a, .int mo, .int m] ∧ JarAt H j n ∧ FewAt b H a gs ∧ 0 ≤ mo ∧ mo ≤ 6 ∧ 1 ≤ m ∧ m ≤ 9 ∧ n + 1000 < 1000000 ∧
  ∀ p rs rws H', H p = none → FourB K b H' p rs rws → JarAt H' j (n + 1000) → Kp j H H' → Q (.ref p) H'
theorem rowB_drop' {K : PySem.W.Frag} {b : Nat} {σ : L2.St} {H : Hp} {r : Addr} {sts : List Stp} {k : Int} {Q : VK} (hR : RowB K b H r sts) (h0 : 0 ≤ k) (q : ∀ r' H', Ext H H' → RowB K b H' r' (sts.drop k.toNat) → Q (.ref r') H') : tNoPart σ H fun u H3 => rSlA K (.ref r) (some k) u H3 Q := rowB_drop hR h0 q
theorem AlB.snoc {b : Nat} {H : Hp} {p : Addr} {st : Stp} {ps : List Addr} {sts : List Stp} (h : AlB b H ps sts) (hp : StpB b H p st) (ok : st.ok) : AlB b H (ps ++ [p]) (sts ++ [st]) := h.append (.cons hp ok .nil)
section
variable {P : Program} {w : World} {K : PySem.W.Frag} {mg : Str → Option Value} {base : Heap}
theorem ok_csteps {f : Addr} {fd : FuncData} (F : Fun K "_law_steps" "_law_steps" sLawSteps f fd) (T : Nms mg) (D : Cl P w K mg base 1 "_law_draw" spDraw) (G : Cl P w K mg base 2 "_law_step" spCstep) : FnOk P w K mg base CX0 3 f fd ["well", "few", "most", "longest"] (spCrow K) := by
  refine F.ok scLawSteps (fun vs H Q E h => ?_) (fun cdv A outer s H vs Q E hr h => ?_)
  · obtain ⟨j, a, n, gs, b, mo, m, rfl, _⟩ := h
    rfl
  · obtain ⟨j, a, n, gs, b, mo, m, rfl, hJ, hG, ho0, ho6, hm1, hm9, hn, q⟩ := h
    have nd := scLawSteps.nd
    refine ⟨_, pss_one (ps_ret (pe_callTy call_tuple_of (by rfl) T.tuple (by decide +kernel) (pa_cons (pe_lc (own := [("turn", 4)]) (g := gName 4) (tt := tYes) rfl nd
      (pi_range1 rfl T.range (pa_cons (pe_cl D hr (by decide) rfl (pa_cons (pv 0) (pa_cons (pe_op op_add (pv 2) pe_int) pa_nil))) pa_nil)) (blkOk_by (N := ["well", "few", "most", "longest", "turn"]) (sc := defScope sLawSteps) (by decide +kernel)) (fun _ _ _ _ _ => pg_name (i := 4) nd rfl (Or.inl rfl)) (fun _ _ _ _ _ => pts_nil)
      (fun _ _ _ _ _ => pe_cl G hr (by decide) rfl (pa_cons (pv 0) (pa_cons (pv 1) (pa_cons (pv 3) pa_nil))))) pa_nil))), ?_⟩
    obtain ⟨xs0, hx0⟩ := hJ.lst
    refine ⟨_, rfl, _, rfl, _, _, rfl, rfl, j, mo + 1, n, rfl, hJ, by omega, by omega, by omega, fun r H1 h0 h1 J1 k1 => ⟨_, rfl, by omega, by omega, fun D1 hD => ?_⟩⟩
    obtain ⟨xs1, hx1⟩ := J1.lst
    have nDj : D1 ≠ j := fun e => by rw [e, hx1] at hD; cases hD
    refine lc_it (walk_range (lo := 0) (n := r.toNat)) (fun i H' => ∃ (ps : List Addr) (sts : List Stp), H' D1 = some (.lst (ps.map V.ref)) ∧ AlB b H' ps sts ∧ sts.length = i ∧ JarAt H' j (n + 1 + 20 * i) ∧ Kp j H H')
      ⟨[], [], upd_same, .nil, rfl, J1.new hD, k1.new hD⟩ (fun _ _ _ _ => trivial) ?_ ?_
    · rintro i x H2 H3 hi ⟨ps, sts, hD2, al, hl, J2, k2⟩ ⟨rfl, rfl⟩
      obtain ⟨xs3, hx3⟩ := J2.lst
      refine ⟨rfl, _, rfl, _, rfl, _, rfl, j, a, _, gs, b, m, rfl, J2, hG.kp k2 hx0, hm1, hm9, by omega, fun p st H4 np ok hst J4 k4 => ?_⟩
      have hD4 : H4 D1 = some (.lst (ps.map V.ref)) := k4 D1 _ nDj hD2
      have kD : ∀ o, Kp D1 H4 (L2.upd H4 D1 o) := fun o => .upd
      refine ⟨_, hD4, by rw [List.length_map, al.al.len, sizeLine_eq]; omega, ps ++ [p], sts ++ [st], ?_, ?_, by rw [List.length_append, hl]; rfl, ?_, ?_⟩
      · rw [upd_same, List.map_append]; rfl
      · exact AlB.snoc ((al.kp k4 hx3).kp (kD _) hD4) (hst.kp (kD _) hD4) ok
      · obtain ⟨a', b', c', e1, e2⟩ := J4.le (show n + 1 + 20 * i + 20 ≤ n + 1 + 20 * (i + 1) by omega)
        exact ⟨a', b', c', by rw [upd_ne nDj.symm]; exact e1, e2⟩
      · intro b o nb hb
        rw [upd_ne (ne_of_none (k1 b o nb hb) hD)]; exact (k2.trans k4) b o nb hb
    · rintro H2 ⟨ps, sts, hD2, al, hl, J2, k2⟩
      refine ⟨D1, _, rfl, .inl ⟨SqL.of hD2, fun t ht => ?_⟩⟩
      have kt : Ext H2 (L2.upd H2 t (.tup (ps.map V.ref))) := Ext.refl.new ht
      exact q t sts _ (k2.none ht ⟨_, hx0⟩ J2.lst) (by omega) ⟨ps, SqT.of upd_same, al.ext kt⟩ ((J2.ext kt).le (by omega)) (k2.trans kt.kp)
theorem ok_cnear {f : Addr} {fd : FuncData} (F : Fun K "_law_near" "_law_near" sLawNear f fd) (T : Nms mg) (D : Cl P w K mg base 1 "_law_draw" spDraw) (G : Cl P w K mg base 2 "_law_step" spCstep) : FnOk P w K mg base CX0 3 f fd ["well", "few", "steps", "longest"] (spCnear K) := by
  refine F.ok scLawNear (fun vs H Q E h => ?_) (fun cdv A outer s H vs Q E hr h => ?_)
  · obtain ⟨j, a, n, gs, b, r, sts, m, rfl, _⟩ := h
    rfl
  · obtain ⟨j, a, n, gs, b, r, sts, m, rfl, hJ, hG, hR, h6, hm1, hm9, hn, q⟩ := h
    have nd := scLawNear.nd
    refine ⟨_, pss_cons (ps_par (i := 4) (j := 5) rfl nd rfl rfl (by decide) rfl rfl (pa_cons (pe_cl D hr (by decide) rfl (pa_cons (pv 0) (pa_cons pe_int pa_nil))) (pa_cons (pe_cl D hr (by decide) rfl (pa_cons (pv 0) (pa_cons (pe_op op_add (pe_callB call_len_seq (by rfl) T.len PySem.boot_len (pa_cons (pv 2) pa_nil)) pe_int) pa_nil))) pa_nil)) (by rfl))
      (pss_cons (ps_if (PW.pt (pw_and (pt_cmpR op_eq (pv 4) pe_int (nomark _)) (pw_and1 (pt_cmpR op_lt (pe_callB call_len_seq (by rfl) T.len PySem.boot_len (pa_cons (pv 2) pa_nil)) pe_int (nomark _)))))
        (pss_one (ps_ret (pe_op op_catA (pe_op op_catA (pe_slice sl_tupA (pv 2) po_none (po_some (pv 5))) (pe_tup (pa_cons (pe_cl G hr (by decide) rfl (pa_cons (pv 0) (pa_cons (pv 1) (pa_cons (pv 3) pa_nil)))) pa_nil))) (pe_slice sl_tupA (pv 2) (po_some (pv 5)) po_none)))) pss_nil)
      (pss_cons (ps_if (pt_cmpR op_eq (pv 4) pe_int (nomark _))
        (pss_one (ps_ret (pe_op op_catA (pe_slice sl_tupA (pv 2) po_none (po_some (pv 5))) (pe_slice sl_tupA (pv 2) (po_some (pe_op op_add (pv 5) pe_int)) po_none)))) pss_nil)
      (pss_cons (ps_if (PW.pt (pw_and (pt_cmpR op_eq (pv 4) pe_int (nomark _)) (pw_and (pt_cmpR op_lt (pe_callB call_len_seq (by rfl) T.len PySem.boot_len (pa_cons (pv 2) pa_nil)) pe_int (nomark _)) (pw_and1 (pt_cmpR op_lt (pv 5) (pe_callB call_len_seq (by rfl) T.len PySem.boot_len (pa_cons (pv 2) pa_nil)) (nomark _))))))
        (pss_one (ps_ret (pe_op op_catA (pe_slice sl_tupA (pv 2) po_none (po_some (pe_op op_add (pv 5) pe_int))) (pe_slice sl_tupA (pv 2) (po_some (pv 5)) po_none)))) pss_nil)
      (pss_one (ps_ret (pv 2)))))), ?_⟩
    obtain ⟨xs0, hx0⟩ := hJ.lst
    refine ⟨_, rfl, j, 5, n, rfl, hJ, by omega, by decide, by decide, fun way H1 hw0 hw1 J1 k1 => ?_⟩
    have R1 := hR.kp k1 hx0
    obtain ⟨ps1, hq1, al1⟩ := id R1
    refine ⟨_, rfl, _, rfl, r, _, rfl, .inr hq1, _, _, rfl, rfl, j, _, _, rfl, J1, by omega, ?_, ?_, fun k H2 hk0 hk1 J2 k2 => ?_⟩
    · rw [List.length_map, al1.al.len]; omega
    · rw [List.length_map, al1.al.len]; omega
    obtain ⟨xs1, hx1⟩ := J1.lst
    obtain ⟨xs2, hx2⟩ := J2.lst
    have R2 := R1.kp k2 hx1
    have k12 := k1.trans k2
    obtain ⟨ps2, hq2, al2⟩ := id R2
    have al2l := al2.al.len
    have hG2 := hG.kp k12 hx0
    have len2 : ∀ {Q : VK}, Q (.int (sts.length : Nat)) H2 → _ := fun {Q} h => h
    refine ⟨_, _, rfl, ?_⟩
    refine ⟨_, rfl, rfl, _, rfl, ?_⟩
    have same : Q (.ref r) H2 := q r sts H2 h6 R2 (J2.le (by omega)) k12
    by_cases hw : V.int way = V.int 0
    · rw [decide_eq_true hw]
      have nw : ∀ z : Int, z ≠ 0 → decide (V.int way = V.int z) = false := fun z hz => by rw [hw]; exact decide_eq_false fun e => hz (by injection e with e; exact e.symm)
      refine iteT ⟨_, rfl, r, _, rfl, .inr hq2, _, _, rfl, rfl, _, rfl, ?_⟩
      rw [List.length_map, al2l]
      by_cases hl6 : sts.length < 6
      · rw [decide_eq_true (show ((sts.length : Nat) : Int) < 6 by omega)]
        refine iteT ⟨_, rfl, _, rfl, k, rfl, rowB_take (σ := []) R2 hk0 fun r1 H5 k5 R5 => ?_⟩
        refine ⟨_, rfl, _, rfl, _, rfl, j, a, _, gs, b, m, rfl, J2.ext k5, hG2.ext k5, hm1, hm9, by omega, fun s st H6 ns hok hst J6 k6 => ?_⟩
        refine ⟨by show 1 ≤ sizeLine; decide, fun t ht => ?_⟩
        have hx5 : H5 j = some (.lst xs2) := k5 j _ hx2
        have kt : Ext H6 (L2.upd H6 t (.tup [.ref s])) := Ext.refl.new ht
        have R7 : RowB K b (L2.upd H6 t (.tup [.ref s])) t [st] := ⟨[s], SqT.of upd_same, .cons (hst.ext kt) hok .nil⟩
        refine rowB_cat ((R5.kp k6 hx5).ext kt) R7 (by rw [List.length_take]; show _ + 1 ≤ 1000; omega) fun r3 H7 k7 R7' => ?_
        have R4' : RowB K b H7 r sts := (((R2.ext k5).kp k6 hx5).ext kt).ext k7
        refine ⟨_, rfl, _, rfl, k, rfl, ?_⟩
        refine rowB_drop' (K := K) R4' hk0 fun r4 H8 k8 R8 => ?_
        refine rowB_cat (R7'.ext k8) R8 (by rw [List.length_append, List.length_take, List.length_drop]; show _ + 1 + _ ≤ 1000; omega) fun r5 H9 k9 R9 => ?_
        have kk : Ext H6 H9 := (((kt.trans k7).trans k8).trans k9)
        refine q r5 _ H9 ?_ R9 ((J6.ext kk).le (by omega)) (((k12.trans k5.kp).trans k6).trans kk.kp)
        rw [List.length_append, List.length_append, List.length_take, List.length_drop]
        show _ + 1 + _ ≤ 6
        omega
      · rw [decide_eq_false (show ¬ ((sts.length : Nat) : Int) < 6 by omega)]
        refine iteF ⟨_, rfl, rfl, _, rfl, ?_⟩
        rw [nw 1 (by decide)]
        refine iteF ⟨_, rfl, rfl, _, rfl, ?_⟩
        rw [nw 2 (by decide)]
        exact iteF (iteF ⟨_, rfl, same⟩)
    · rw [decide_eq_false hw]
      refine iteF (iteF ⟨_, rfl, rfl, _, rfl, ite2 (fun _ => ?_) (fun _ => ?_)⟩)
      · refine ⟨_, rfl, _, rfl, k, rfl, rowB_take (σ := []) R2 hk0 fun r1 H5 k5 R5 => ?_⟩
        refine ⟨_, rfl, _, rfl, _, _, rfl, rfl, _, rfl, ?_⟩
        refine rowB_drop' (K := K) (R2.ext k5) (by omega) fun r2 H6 k6 R6 => ?_
        refine rowB_cat (R5.ext k6) R6 (by rw [List.length_take, List.length_drop]; omega) fun r3 H7 k7 R7 => ?_
        have k57 := (k5.trans k6).trans k7
        exact q r3 _ H7 (by rw [List.length_append, List.length_take, List.length_drop]; omega) R7 ((J2.ext k57).le (by omega)) (k12.trans k57.kp)
      · refine ⟨_, rfl, rfl, _, rfl, ?_⟩
        by_cases h2 : V.int way = V.int 2
        · rw [decide_eq_true h2]
          refine iteT ⟨_, rfl, r, _, rfl, .inr hq2, _, _, rfl, rfl, _, rfl, ?_⟩
          rw [List.length_map, al2l]
          by_cases hl6 : sts.length < 6
          · rw [decide_eq_true (show ((sts.length : Nat) : Int) < 6 by omega)]
            refine iteT ⟨_, rfl, _, rfl, r, _, rfl, .inr hq2, _, _, rfl, rfl, _, rfl, ?_⟩
            rw [List.length_map, al2l]
            by_cases hks : k < ((sts.length : Nat) : Int)
            · rw [decide_eq_true hks]
              refine iteT ⟨_, rfl, _, rfl, _, _, rfl, rfl, k + 1, rfl, rowB_take (σ := []) R2 (by omega) fun r1 H5 k5 R5 => ?_⟩
              refine ⟨_, rfl, _, rfl, k, rfl, ?_⟩
              refine rowB_drop' (K := K) (R2.ext k5) hk0 fun r2 H6 k6 R6 => ?_
              refine rowB_cat (R5.ext k6) R6 (by rw [List.length_take, List.length_drop]; omega) fun r3 H7 k7 R7 => ?_
              have k57 := (k5.trans k6).trans k7
              exact q r3 _ H7 (by rw [List.length_append, List.length_take, List.length_drop]; omega) R7 ((J2.ext k57).le (by omega)) (k12.trans k57.kp)
            · rw [decide_eq_false hks]
              exact iteF ⟨_, rfl, same⟩
          · rw [decide_eq_false (show ¬ ((sts.length : Nat) : Int) < 6 by omega)]
            exact iteF (iteF ⟨_, rfl, same⟩)
        · rw [decide_eq_false h2]
          exact iteF (iteF ⟨_, rfl, same⟩)
end
end Pd

set_option maxHeartbeats 4000000
namespace Pd
open PySem PySem.Spec PyProof.Rows L2 SX
def spCtext : Sp := fun vs H Q _ => ∃ (j a : Addr) (n : Nat) (gs : List Nat) (b : Nat), vs = [.ref j, .ref a] ∧ JarAt H j n ∧ FewAt b H a gs ∧ n + 200 < 1000000 ∧
  ∀ l H', Good l → JarAt H' j (n + 200) → Kp j H H' → Q (.str (S l)) H'
theorem six_item {r : Int} (h0 : 0 ≤ r) (h1 : r < 6) : ∃ m : Int, atI [V.int 4, V.int 4, V.int 9, V.int 4, V.int 9, V.int 61] r = some (.int m) ∧ 1 ≤ m ∧ m ≤ 61 := by
  obtain rfl | rfl | rfl | rfl | rfl | rfl : r = 0 ∨ r = 1 ∨ r = 2 ∨ r = 3 ∨ r = 4 ∨ r = 5 := by omega
  · exact ⟨4, rfl, by decide, by decide⟩
  · exact ⟨4, rfl, by decide, by decide⟩
  · exact ⟨9, rfl, by decide, by decide⟩
  · exact ⟨4, rfl, by decide, by decide⟩
  · exact ⟨9, rfl, by decide, by decide⟩
  · exact ⟨61, rfl, by decide, by decide⟩
section
variable {P : Program} {w : World} {K : PySem.W.Frag} {mg : Str → Option Value} {base : Heap}
theorem ok_cfour {f : Addr} {fd : FuncData} (F : Fun K "_law_four" "_law_four" sLawFour f fd) (T : Nms mg) (D : Cl P w K mg base 1 "_law_draw" spDraw) (G : Cl P w K mg base 3 "_law_steps" (spCrow K)) (G2 : Cl P w K mg base 3 "_law_near" (spCnear K)) : FnOk P w K mg base CX0 4 f fd ["well", "few", "most", "longest"] (spCfour K) := by
  refine F.ok scLawFour (fun vs H Q E h => ?_) (fun cdv A outer s H vs Q E hr h => ?_)
  · obtain ⟨j, a, n, gs, b, mo, m, rfl, _⟩ := h
    rfl
  · obtain ⟨j, a, n, gs, b, mo, m, rfl, hJ, hG, ho0, ho6, hm1, hm9, hn, q⟩ := h
    have nd := scLawFour.nd
    refine ⟨_, pss_cons (ps_set (i := 4) nd rfl (Or.inr rfl) (pe_cl G hr (by decide) rfl (pa_cons (pv 0) (pa_cons (pv 1) (pa_cons (pv 2) (pa_cons (pv 3) pa_nil))))))
      (pss_cons (ps_setLc (i := 5) (own := [("turn", 6)]) (g := gName 6) (tt := tYes) rfl nd rfl rfl (sw_true rfl rfl rfl (by decide +kernel)) (pi_range1 rfl T.range (pa_cons pe_int pa_nil))
        (blkOk_by (N := ["well", "few", "most", "longest", "base", "found", "turn"]) (sc := defScope sLawFour) (by decide +kernel)) (fun _ _ _ _ _ => pg_name (i := 6) nd rfl (Or.inl rfl)) (fun _ _ _ _ _ => pts_nil)
        (fun _ _ _ _ _ => pe_cl G2 hr (by decide) rfl (pa_cons (pv 0) (pa_cons (pv 1) (pa_cons (pv 4) (pa_cons (pv 3) pa_nil))))))
      (C8.pss_cut (ps_if (pt_cmpR op_eq (pe_cl D hr (by decide) rfl (pa_cons (pv 0) (pa_cons pe_int pa_nil))) pe_int (nomark _))
        (pss_one (ps_asg (pe_cl G hr (by decide) rfl (pa_cons (pv 0) (pa_cons (pv 1) (pa_cons (pv 2) (pa_cons (pv 3) pa_nil))))) (pg_sub (pv 5) (pe_cl D hr (by decide) rfl (pa_cons (pv 0) (pa_cons pe_int pa_nil))) set_list))) pss_nil)
      (pss_one (ps_ret (pv 5))))), ?_⟩
    obtain ⟨xs0, hx0⟩ := hJ.lst
    refine ⟨_, rfl, _, rfl, _, rfl, _, rfl, j, a, n, gs, b, mo, m, rfl, hJ, hG, ho0, ho6, hm1, hm9, by omega, fun r sts H1 nr h6 R1 J1 k1 => ?_⟩
    obtain ⟨xs1, hx1⟩ := J1.lst
    have G1 := hG.kp k1 hx0
    refine ⟨4, rfl, by decide, by decide, fun D1 hD => ?_⟩
    have nDj : D1 ≠ j := fun e => by rw [e, hx1] at hD; cases hD
    refine lc_it (walk_range (lo := 0) (n := 4)) (fun i H' => ∃ (rs : List Addr) (rws : List (List Stp)), H' D1 = some (.lst (rs.map V.ref)) ∧ RwB K b H' rs rws ∧ rws.length = i ∧ JarAt H' j (n + 200 + 50 * i) ∧ RowB K b H' r sts ∧ Kp j H H')
      ⟨[], [], upd_same, .nil, rfl, J1.new hD, R1.ext (Ext.refl.new hD), k1.new hD⟩ (fun _ _ _ _ => trivial) ?_ ?_
    · rintro i x H2 H3 hi ⟨rs, rws, hD2, W2, hl, J2, R2, k2⟩ ⟨rfl, rfl⟩
      obtain ⟨xs3, hx3⟩ := J2.lst
      refine ⟨rfl, _, rfl, _, rfl, _, rfl, _, rfl, j, a, _, gs, b, r, sts, m, rfl, J2, hG.kp k2 hx0, R2, h6, hm1, hm9, by omega, fun r' sts' H4 h6' R4 J4 k4 => ?_⟩
      have hD4 : H4 D1 = some (.lst (rs.map V.ref)) := k4 D1 _ nDj hD2
      have kD : ∀ o, Kp D1 H4 (L2.upd H4 D1 o) := fun o => .upd
      refine ⟨_, hD4, by rw [List.length_map, W2.len, sizeLine_eq]; omega, rs ++ [r'], rws ++ [sts'], ?_, ?_, by rw [List.length_append, hl]; rfl, ?_, ?_, ?_⟩
      · rw [upd_same, List.map_append]; rfl
      · exact RwB.snoc (R4.kp (kD _) hD4) h6' ((W2.kp hx3 k4).kp hD4 (kD _))
      · obtain ⟨a', b', c', e1, e2⟩ := J4.le (show n + 200 + 50 * i + 50 ≤ n + 200 + 50 * (i + 1) by omega)
        exact ⟨a', b', c', by rw [upd_ne nDj.symm]; exact e1, e2⟩
      · exact (R2.kp k4 hx3).kp (kD _) hD4
      · intro b o nb hb
        rw [upd_ne (ne_of_none (k1 b o nb hb) hD)]; exact (k2.trans k4) b o nb hb
    · rintro H2 ⟨rs, rws, hD2, W2, hl, J2, R2, k2⟩
      have np : H D1 = none := k1.none hD ⟨_, hx0⟩ ⟨_, hx1⟩
      obtain ⟨xs2, hx2⟩ := J2.lst
      refine ⟨fun σ' H' => (∃ u, σ' = [some (.ref j), some (.ref a), some (.int mo), some (.int m), some (.ref r), some (.ref D1), u]) ∧ (∃ rs rws, FourB K b H' D1 rs rws) ∧ JarAt H' j (n + 1000) ∧ Kp j H H', ?_, ?_⟩
      · refine ⟨_, rfl, j, 4, _, rfl, J2, by omega, by decide, by decide, fun r3 H3 h03 h13 J3 k3 => ⟨rfl, _, rfl, ite2 (fun _ => ?_) (fun _ => ?_)⟩⟩
        · obtain ⟨xs3, hx3⟩ := J3.lst
          refine ⟨_, rfl, _, rfl, _, rfl, _, rfl, j, a, _, gs, b, mo, m, rfl, J3, hG.kp (k2.trans k3) hx0, ho0, ho6, hm1, hm9, by omega, fun r4 sts4 H4 nr4 h64 R4 J4 k4 => ?_⟩
          obtain ⟨xs4, hx4⟩ := J4.lst
          refine ⟨_, rfl, _, rfl, j, 4, _, rfl, J4, by omega, by decide, by decide, fun r5 H5 h05 h15 J5 k5 => ?_⟩
          have k35 := (k3.trans k4).trans k5
          have hD5 : H5 D1 = some (.lst (rs.map V.ref)) := k35 D1 _ nDj hD2
          refine ⟨D1, _, _, r5.toNat, rfl, rfl, hD5, ?_, ?_⟩
          · rw [List.length_map, W2.len, hl]
            unfold ixN
            rw [if_pos h05, if_pos (by omega)]
          have kD : Kp D1 H5 (L2.upd H5 D1 (.lst ((rs.map V.ref).set r5.toNat (.ref r4)))) := .upd
          refine ⟨⟨_, rfl⟩, ⟨rs.set r5.toNat r4, rws.set r5.toNat sts4, ?_, ?_, by rw [List.length_set]; exact hl⟩, ?_, ?_⟩
          · rw [upd_same, List.map_set]
          · exact ((W2.kp hx2 k35).kp hD5 kD).set ((R4.kp k5 hx4).kp kD hD5) h64
          · obtain ⟨a', b', c', e1, e2⟩ := J5.le (show n + 200 + 50 * 4 + 1 + 200 + 1 ≤ n + 1000 by omega)
            exact ⟨a', b', c', by rw [upd_ne nDj.symm]; exact e1, e2⟩
          · intro b o nb hb
            rw [upd_ne (ne_of_none hb np)]; exact (k2.trans k35) b o nb hb
        · exact ⟨⟨_, rfl⟩, ⟨rs, rws, k3 D1 _ nDj hD2, W2.kp hx2 k3, hl⟩, J3.le (by omega), k2.trans k3⟩
      · rintro σ' H3 ⟨⟨u, rfl⟩, ⟨rs, rws, F4⟩, J3, k3⟩
        exact ⟨_, rfl, q D1 rs rws H3 np F4 J3 k3⟩
theorem ok_ctext {f : Addr} {fd : FuncData} (F : Fun K "_law_text" "_law_text" sLawText f fd) (T : Nms mg) (D : Cl P w K mg base 1 "_law_draw" spDraw) (G : ClT P w K mg base 2 "_law_sign" spSign) : FnOk P w K mg base CX0 3 f fd ["well", "few"] spCtext := by
  refine F.ok scLawText (fun vs H Q E h => ?_) (fun cdv A outer s H vs Q E hr h => ?_)
  · obtain ⟨j, a, n, gs, b, rfl, _⟩ := h
    rfl
  · obtain ⟨j, a, n, gs, b, rfl, hJ, hG, hn, q⟩ := h
    have nd := scLawText.nd
    refine ⟨_, pss_cons (ps_set (i := 2) nd rfl (Or.inl rfl) (pe_cl D hr (by decide) rfl (pa_cons (pv 0) (pa_cons (pe_ix ix_list (pe_lst (pa_cons pe_int (pa_cons pe_int (pa_cons pe_int (pa_cons pe_int (pa_cons pe_int (pa_cons pe_int pa_nil))))))) (pe_cl D hr (by decide) rfl (pa_cons (pv 0) (pa_cons pe_int pa_nil))) (fun _ _ => rfl)) pa_nil))))
      (pss_cons (ps_set (i := 3) nd rfl (Or.inl rfl) (pe_lst pa_nil))
      (pss_cons (ps_for PassesOwn.never rfl (pi_range1 rfl T.range (pa_cons (pv 2) pa_nil)) (pg_name (i := 4) nd rfl (Or.inl rfl))
        (pss_cons (ps_set (i := 5) nd rfl (Or.inl rfl) (pe_ix ix_list (pv 1) (pe_cl D hr (by decide) rfl (pa_cons (pv 0) (pa_cons (pe_callB call_len_seq (by rfl) T.len PySem.boot_len (pa_cons (pv 1) pa_nil)) pa_nil))) (fun _ _ => rfl)))
        (C8.pss_cut (ps_if (pt_cmpR op_eq (pe_cl D hr (by decide) rfl (pa_cons (pv 0) (pa_cons pe_int pa_nil))) pe_int (nomark _)) (pss_one (ps_set (i := 5) nd rfl (Or.inl rfl) (PEF.pe (pef_cl G hr (by decide) rfl (pa_cons (pv 0) pa_nil))))) pss_nil)
        (pss_one (ps_expr (pe_bm PySem.F.plainAttrs_list PySem.F.slot_list_append PySem.F.type_list_append mt_append (pv 3) (pa_cons (pv 5) pa_nil)))))))
      (pss_one (ps_ret (pe_join pe_str (pv 3)))))), ?_⟩
    obtain ⟨xs0, hx0⟩ := hJ.lst
    refine ⟨_, rfl, by show 6 ≤ sizeLine; decide, fun lx hlx => ?_⟩
    have hxl : (L2.upd H lx (.lst [V.int 4, V.int 4, V.int 9, V.int 4, V.int 9, V.int 61])) lx = some (.lst [V.int 4, V.int 4, V.int 9, V.int 4, V.int 9, V.int 61]) := upd_same
    have ljn : lx ≠ j := by rintro rfl; rw [hx0] at hlx; cases hlx
    refine ⟨_, rfl, j, 6, n, rfl, hJ.new hlx, by omega, by decide, by decide, fun r6 H6 h06 h16 J6 k6 => ?_⟩
    obtain ⟨mm, em, m1, m61⟩ := six_item h06 h16
    refine ⟨lx, _, r6, _, rfl, rfl, SqL.of (k6 lx _ ljn hxl), em, j, mm, _, rfl, J6, by omega, by omega, by omega, fun sz H7 h07 h17 J7 k7 => ?_⟩
    have k07 : Kp j H H7 := ((Kp.refl (j := j) (H := H)).new hlx).trans (k6.trans k7)
    refine ⟨by show 0 ≤ sizeLine; decide, fun D1 hD => ⟨_, rfl, sz, rfl, by omega, by omega, ?_⟩⟩
    obtain ⟨xs7, hx7⟩ := J7.lst
    have nDj : D1 ≠ j := fun e => by rw [e, hx7] at hD; cases hD
    refine for_range (lo := 0) (n := sz.toNat) (fun i σ H' => ∃ (l : List Nat) (u v : Option V), σ = [some (.ref j), some (.ref a), some (.int sz), some (.ref D1), u, v] ∧ H' D1 = some (.lst ((l.map sg).map V.str)) ∧ (∀ c ∈ l, c ∈ CH) ∧ l.length = i ∧ JarAt H' j (n + 2 + 3 * i) ∧ Kp j H H')
      ⟨[], none, none, rfl, upd_same, (fun _ h => nomatch h), rfl, J7.new hD, k07.new hD⟩ ?_ ?_
    · rintro i σ H2 hi ⟨l, u, v, rfl, hD2, hl, hll, J2, k2⟩
      have S2 := hG.kp k2 hx0
      refine ⟨_, rfl, _, rfl, _, rfl, a, _, rfl, .inl S2.seq, j, _, _, rfl, J2, by omega, ?_, ?_, fun r3 H3 h03 h13 J3 k3 => ?_⟩
      · rw [S2.len']; decide
      · rw [S2.len']; decide
      rw [S2.len'] at h13
      have S3 := hG.kp (k2.trans k3) hx0
      obtain ⟨c, hc, ec⟩ := S3.item' h03 h13
      refine ⟨a, _, r3, _, rfl, rfl, S3.seq, ec, ?_⟩
      have hD3 : H3 D1 = some (.lst ((l.map sg).map V.str)) := k3 D1 _ nDj hD2
      refine ⟨fun σ' H' => ∃ (d : Nat) (u : Option V), σ' = [some (.ref j), some (.ref a), some (.int sz), some (.ref D1), u, some (.str (sg d))] ∧ d ∈ CH ∧ H' D1 = some (.lst ((l.map sg).map V.str)) ∧ JarAt H' j (n + 2 + 3 * i + 3) ∧ Kp j H H', ?_, ?_⟩
      · refine ⟨_, rfl, j, 8, _, rfl, J3, by omega, by decide, by decide, fun r4 H4 h04 h14 J4 k4 => ⟨rfl, _, rfl, ite2 (fun _ => ?_) (fun _ => ?_)⟩⟩
        · refine ⟨_, rfl, j, _, rfl, J4, by omega, fun d H5 hd J5 k5 => ⟨d, _, rfl, hd, k5 D1 _ nDj (k4 D1 _ nDj hD3), J5, ((k2.trans k3).trans k4).trans k5⟩⟩
        · exact ⟨c, _, rfl, hc, k4 D1 _ nDj hD3, J4.le (by omega), (k2.trans k3).trans k4⟩
      · rintro σ' H5 ⟨d, u', rfl, hd, hD5, J5, k5⟩
        refine ⟨_, rfl, .inl ⟨rfl, _, SqL.of hD5⟩, _, rfl, D1, _, _, rfl, rfl, hD5, by rw [List.length_map, List.length_map, hll, sizeLine_eq]; omega, ?_⟩
        refine ⟨l ++ [d], _, _, rfl, ?_, fun x hx => ?_, by rw [List.length_append, hll]; rfl, ?_, ?_⟩
        · rw [upd_same, List.map_append, List.map_append]; rfl
        · rcases List.mem_append.mp hx with h | h
          · exact hl x h
          · rw [List.mem_singleton.mp h]; exact hd
        · obtain ⟨a', b', c', e1, e2⟩ := J5.le (show n + 2 + 3 * i + 3 ≤ n + 2 + 3 * (i + 1) by omega)
          exact ⟨a', b', c', by rw [upd_ne nDj.symm]; exact e1, e2⟩
        · intro b o nb hb
          rw [upd_ne (ne_of_none (k07 b o nb hb) hD)]; exact k5 b o nb hb
    · rintro σ H2 ⟨l, u, v, rfl, hD2, hl, hll, J2, k2⟩
      refine ⟨⟨_, rfl⟩, _, rfl, _, D1, l.map sg, rfl, rfl, .inl (SqL.of hD2), ?_, ?_⟩
      · rw [sum_sg, List.length_map]
        show l.length + l.length * 0 ≤ 16777216
        omega
      rw [join_sg]
      exact q l H2 ⟨hl, by omega⟩ (J2.le (by omega)) k2
end
end Pd

set_option maxHeartbeats 4000000
namespace Pd
open PySem PySem.Spec PyProof.Rows L2 SX
/-! ### deeds -/
inductive Dr where
  | put | find | strike
deriving DecidableEq
def Dr.nm : Dr → Str
  | .put => "put" | .find => "find" | .strike => "strike"
abbrev Deed := Dr × List Nat
def deedVals (d : Deed) : List V := [.str d.1.nm, .str (S d.2)]
inductive DAl (K : PySem.W.Frag) (H : Hp) : List Addr → List Deed → Prop where
  | nil : DAl K H [] []
  | cons {p : Addr} {d : Deed} {ps : List Addr} {ds : List Deed} (h : SqT K H p (deedVals d)) (g : Good d.2) (r : DAl K H ps ds) : DAl K H (p :: ps) (d :: ds)
section
variable {K : PySem.W.Frag} {H H' : Hp}
theorem DAl.ext (k : Ext H H') : ∀ {ps : List Addr} {ds : List Deed}, DAl K H ps ds → DAl K H' ps ds
  | _, _, .nil => .nil
  | _, _, .cons h g r => .cons (sqT_keep h (fun o x => k _ o x)) g (r.ext k)
theorem DAl.kp {j : Addr} {xs : List V} (k : Kp j H H') (hj : H j = some (.lst xs)) : ∀ {ps : List Addr} {ds : List Deed}, DAl K H ps ds → DAl K H' ps ds
  | _, _, .nil => .nil
  | _, _, .cons h g r => .cons (sqT_noLst h k hj) g (r.kp k hj)
theorem DAl.len : ∀ {ps : List Addr} {ds : List Deed}, DAl K H ps ds → ps.length = ds.length
  | _, _, .nil => rfl
  | _, _, .cons _ _ r => congrArg (· + 1) r.len
theorem DAl.append : ∀ {ps qs : List Addr} {ds es : List Deed}, DAl K H ps ds → DAl K H qs es → DAl K H (ps ++ qs) (ds ++ es)
  | _, _, _, _, .nil, h => h
  | _, _, _, _, .cons h g r, q => .cons h g (r.append q)
theorem DAl.snoc {p : Addr} {d : Deed} {ps : List Addr} {ds : List Deed} (a : DAl K H ps ds) (h : SqT K H p (deedVals d)) (g : Good d.2) : DAl K H (ps ++ [p]) (ds ++ [d]) := a.append (.cons h g .nil)
theorem DAl.take : ∀ {ps : List Addr} {ds : List Deed} (n : Nat), DAl K H ps ds → DAl K H (ps.take n) (ds.take n)
  | _, _, 0, _ => by rw [List.take_zero, List.take_zero]; exact .nil
  | _, _, n + 1, .nil => .nil
  | _, _, n + 1, .cons h g r => .cons h g (r.take n)
theorem DAl.drop : ∀ {ps : List Addr} {ds : List Deed} (n : Nat), DAl K H ps ds → DAl K H (ps.drop n) (ds.drop n)
  | _, _, 0, h => h
  | _, _, n + 1, .nil => .nil
  | _, _, n + 1, .cons h g r => r.drop n
theorem DAl.get : ∀ {ps : List Addr} {ds : List Deed} {i : Nat} {p : Addr}, DAl K H ps ds → ps[i]? = some p → ∃ d, ds[i]? = some d ∧ SqT K H p (deedVals d) ∧ Good d.2
  | _, _, _, _, .nil, e => by simp at e
  | _, _, 0, _, .cons h g r, e => by
    simp at e; subst e
    exact ⟨_, by simp, h, g⟩
  | _, _, i + 1, _, .cons h g r, e => by
    obtain ⟨d, e1, h1⟩ := r.get (i := i) (by simpa using e)
    exact ⟨d, by simpa using e1, h1⟩
end
def spCdeeds (K : PySem.W.Frag) : Sp := fun vs H Q _ => ∃ (sc j a : Addr) (ns : List Int) (st mo : Int) (n : Nat) (gs : List Nat) (b : Nat), vs = [.ref sc, .int st, .ref j, .ref a, .int mo] ∧ (∀ H', Kp j H H' → SqL K H' sc (ns.map V.int)) ∧ ns.length ≤ 63 ∧ 0 ≤ st ∧ st ≤ 10 ∧
  JarAt H j n ∧ FewAt b H a gs ∧ 0 ≤ mo ∧ mo ≤ 300 ∧ n + 100000 < 1000000 ∧ ∀ p ps ds H', H p = none → H' p = some (.lst (ps.map V.ref)) → DAl K H' ps ds → ds.length ≤ 300 → JarAt H' j (n + 100000) → Kp j H H' → Q (.ref p) H'
theorem four_name {r : Int} (h0 : 0 ≤ r) (h1 : r < 4) : ∃ d : Dr, atI [V.str "put", V.str "find", V.str "strike", V.str "put"] r = some (.str d.nm) := by
  obtain rfl | rfl | rfl | rfl : r = 0 ∨ r = 1 ∨ r = 2 ∨ r = 3 := by omega
  · exact ⟨.put, rfl⟩
  · exact ⟨.find, rfl⟩
  · exact ⟨.strike, rfl⟩
  · exact ⟨.put, rfl⟩
def txV (l : List Nat) : V := .str (S l)
theorem six_text {ls : List (List Nat)} (hl : ls.length = 6) (hg : ∀ l ∈ ls, Good l) {r : Int} (h0 : 0 ≤ r) (h1 : r < 6) : ∃ l, atI (ls.map txV) r = some (.str (S l)) ∧ Good l := by
  have e : r.toNat < ls.length := by rw [hl]; omega
  refine ⟨ls[r.toNat], ?_, hg _ (List.getElem_mem e)⟩
  have z := atI_nat (xs := ls.map txV) (j := r.toNat) (v := .str (S ls[r.toNat])) (by rw [List.getElem?_map, List.getElem?_eq_getElem e]; rfl)
  have e2 : ((r.toNat : Nat) : Int) = r := by omega
  rw [e2] at z
  exact z
section
variable {P : Program} {w : World} {K : PySem.W.Frag} {mg : Str → Option Value} {base : Heap}
theorem ok_cdeeds {f : Addr} {fd : FuncData} (F : Fun K "_law_deeds" "_law_deeds" sLawDeeds f fd) (T : Nms mg) (W : Cl P w K mg base 1 "_law_well" (spJar K)) (D : Cl P w K mg base 1 "_law_draw" spDraw) (G : Cl P w K mg base 3 "_law_text" spCtext) : FnOk P w K mg base CX0 4 f fd ["script", "start", "well", "few", "most"] (spCdeeds K) := by
  refine F.ok scLawDeeds (fun vs H Q E h => ?_) (fun cdv A outer s H vs Q E hr h => ?_)
  · obtain ⟨sc, j, a, ns, st, mo, n, gs, b, rfl, _⟩ := h
    rfl
  · obtain ⟨sc, j, a, ns, st, mo, n, gs, b, rfl, hS, hns, hs0, hs1, hJ, hG, hm0, hm1, hn, q⟩ := h
    have nd := scLawDeeds.nd
    have dr : ∀ {i : Nat} {x : Str} {e : Expr} {t : TE}, True := trivial
    refine ⟨_, pss_cons (ps_par (i := 5) (j := 6) rfl nd rfl rfl (by decide) rfl rfl (pa_cons (pe_op op_cat (pe_lst (pa_cons pe_str (pa_cons (pe_ix ix_list (pv 3) pe_int (fun _ _ => rfl)) (pa_cons (pe_ix ix_list (pv 3) pe_int (fun _ _ => rfl)) pa_nil))))
          (pe_lc (own := [("turn", 7)]) (g := gName 7) (tt := tYes) rfl nd (pi_range1 rfl T.range (pa_cons pe_int pa_nil)) (blkOk_by (N := ["script", "start", "well", "few", "most", "texts", "acts", "turn", "source", "door", "text", "way"]) (sc := defScope sLawDeeds) (by decide +kernel)) (fun _ _ _ _ _ => pg_name (i := 7) nd rfl (Or.inl rfl)) (fun _ _ _ _ _ => pts_nil)
            (fun _ _ _ _ _ => pe_cl G hr (by decide) rfl (pa_cons (pv 2) (pa_cons (pv 3) pa_nil))))) (pa_cons (pe_lst pa_nil) pa_nil)) (by rfl))
      (pss_cons (ps_for PassesOwn.never rfl (pi_range1 rfl T.range (pa_cons (pe_callB (call_max2 rfl) (by rfl) T.max (by decide +kernel) (pa_cons (pe_callB (call_min2 rfl) (by rfl) T.min (by decide +kernel) (pa_cons pe_int (pa_cons (pe_op op_sub (pe_callB call_len_seq (by rfl) T.len PySem.boot_len (pa_cons (pv 0) pa_nil)) (pv 1)) pa_nil)))
          (pa_cons (pe_cl D hr (by decide) rfl (pa_cons (pv 2) (pa_cons (pe_op op_add (pv 4) pe_int) pa_nil))) pa_nil))) pa_nil)) (pg_name (i := 7) nd rfl (Or.inl rfl))
        (pss_cons (ps_set (i := 8) nd rfl (Or.inl rfl) (pv 2))
        (C8.pss_cut (ps_if (pt_cmpR op_lt (pe_op op_add (pv 1) (pv 7)) (pe_callB call_len_seq (by rfl) T.len PySem.boot_len (pa_cons (pv 0) pa_nil)) (nomark _))
          (pss_one (ps_set (i := 8) nd rfl (Or.inl rfl) (pe_cl W hr (by decide) rfl (pa_cons (pv 0) (pa_cons (pe_op op_add (pv 1) (pv 7)) pa_nil))))) pss_nil)
        (pss_cons (ps_par (i := 9) (j := 10) rfl nd rfl rfl (by decide) rfl rfl (pa_cons (pe_ix ix_list (pe_lst (pa_cons pe_str (pa_cons pe_str (pa_cons pe_str (pa_cons pe_str pa_nil))))) (pe_cl D hr (by decide) rfl (pa_cons (pv 8) (pa_cons pe_int pa_nil))) (fun _ _ => rfl))
            (pa_cons (pe_ix ix_list (pv 5) (pe_cl D hr (by decide) rfl (pa_cons (pv 8) (pa_cons pe_int pa_nil))) (fun _ _ => rfl)) pa_nil)) (by rfl))
        (pss_cons (ps_set (i := 11) nd rfl (Or.inl rfl) (pe_cl D hr (by decide) rfl (pa_cons (pv 8) (pa_cons pe_int pa_nil))))
        (C8.pss_cut (ps_if (pt_cmpR op_eq (pv 11) pe_int (nomark _)) (pss_one (ps_set (i := 10) nd rfl (Or.inl rfl) (pe_slice C8.sl_txt (pv 10) po_none (po_some (pe_cl D hr (by decide) rfl (pa_cons (pv 8) (pa_cons pe_int pa_nil))))))) pss_nil)
        (C8.pss_cut (ps_if (pt_cmpR op_eq (pv 11) pe_int (nomark _)) (pss_one (ps_set (i := 10) nd rfl (Or.inl rfl) (pe_cl G hr (by decide) rfl (pa_cons (pv 8) (pa_cons (pv 3) pa_nil))))) pss_nil)
        (pss_one (ps_expr (pe_bm PySem.F.plainAttrs_list PySem.F.slot_list_append PySem.F.type_list_append mt_append (pv 6) (pa_cons (pe_tup (pa_cons (pv 9) (pa_cons (pv 10) pa_nil))) pa_nil)))))))))))
      (pss_one (ps_ret (pv 6)))), ?_⟩
    obtain ⟨xs0, hx0⟩ := hJ.lst
    have hS0 := hS H .refl
    obtain ⟨c0, hc0, e0⟩ := hG.item' (r := 0) (by decide) (by decide)
    obtain ⟨c1, hc1, e1⟩ := hG.item' (r := 1) (by decide) (by decide)
    have good1 : ∀ {c : Nat}, c ∈ CH → Good [c] := fun {c} hc => ⟨fun x hx => by rw [List.mem_singleton.mp hx]; exact hc, by show 1 ≤ 60; decide⟩
    refine ⟨_, rfl, a, _, 0, .str (sg c0), rfl, rfl, hG.seq, e0, ?_⟩
    refine ⟨_, rfl, a, _, 1, .str (sg c1), rfl, rfl, hG.seq, e1, by show 3 ≤ sizeLine; decide, fun l3 hl3 => ?_⟩
    have k03 : Ext H (L2.upd H l3 (.lst [V.str "", V.str (sg c0), V.str (sg c1)])) := Ext.refl.new hl3
    have hx3 : (L2.upd H l3 (.lst [V.str "", V.str (sg c0), V.str (sg c1)])) l3 = some (.lst [V.str "", V.str (sg c0), V.str (sg c1)]) := upd_same
    have l3j : l3 ≠ j := by rintro rfl; rw [hx0] at hl3; cases hl3
    refine ⟨3, rfl, by decide, by decide, fun D1 hD => ?_⟩
    have nDj : D1 ≠ j := by rintro rfl; rw [k03 _ _ hx0] at hD; cases hD
    have nD3 : D1 ≠ l3 := by rintro rfl; rw [hx3] at hD; cases hD
    refine lc_it (walk_range (lo := 0) (n := 3)) (fun i H' => ∃ ls : List (List Nat), H' D1 = some (.lst (ls.map txV)) ∧ (∀ l ∈ ls, Good l) ∧ ls.length = i ∧ H' l3 = some (.lst [V.str "", V.str (sg c0), V.str (sg c1)]) ∧ JarAt H' j (n + 200 * i) ∧ Kp j H H')
      ⟨[], upd_same, (fun _ h => nomatch h), rfl, by rw [upd_ne nD3.symm]; exact hx3, (hJ.ext k03).new hD, k03.kp.new hD⟩ (fun _ _ _ _ => trivial) ?_ ?_
    · rintro i x H2 H3 hi ⟨ls, hD2, hg, hl, h32, J2, k2⟩ ⟨rfl, rfl⟩
      refine ⟨rfl, _, rfl, _, rfl, j, a, _, gs, b, rfl, J2, hG.kp k2 hx0, by omega, fun l H4 gl J4 k4 => ?_⟩
      have hD4 : H4 D1 = some (.lst (ls.map txV)) := k4 D1 _ nDj hD2
      refine ⟨_, hD4, by rw [List.length_map, hl, sizeLine_eq]; omega, ls ++ [l], ?_, ?_, by rw [List.length_append, hl]; rfl, ?_, ?_, ?_⟩
      · rw [upd_same, List.map_append]; rfl
      · intro z hz
        rcases List.mem_append.mp hz with h | h
        · exact hg z h
        · rw [List.mem_singleton.mp h]; exact gl
      · rw [upd_ne nD3.symm]; exact k4 l3 _ l3j h32
      · obtain ⟨a', b', c', z1, z2⟩ := J4.le (show n + 200 * i + 200 ≤ n + 200 * (i + 1) by omega)
        exact ⟨a', b', c', by rw [upd_ne nDj.symm]; exact z1, z2⟩
      · intro b o nb hb
        rw [upd_ne (ne_of_none (k03 b o hb) hD)]; exact (k2.trans k4) b o nb hb
    rintro H2 ⟨ls, hD2, hg, hl, h32, J2, k2⟩
    refine ⟨l3, D1, _, _, rfl, rfl, h32, hD2, by rw [List.length_map, hl]; show 3 + 3 ≤ sizeLine; decide, fun t ht => ?_⟩
    have kt : Ext H2 (L2.upd H2 t (.lst ([V.str "", V.str (sg c0), V.str (sg c1)] ++ ls.map txV))) := Ext.refl.new ht
    have hxt : (L2.upd H2 t (.lst ([V.str "", V.str (sg c0), V.str (sg c1)] ++ ls.map txV))) t = some (.lst (([] :: [c0] :: [c1] :: ls).map txV)) := upd_same
    have gl6 : ([] :: [c0] :: [c1] :: ls : List (List Nat)).length = 6 := by show ls.length + 1 + 1 + 1 = 6; omega
    have gg6 : ∀ l ∈ ([] :: [c0] :: [c1] :: ls : List (List Nat)), Good l := by
      intro l hl
      rcases List.mem_cons.mp hl with rfl | hl
      · exact ⟨(fun _ h => nomatch h), by show 0 ≤ 60; decide⟩
      rcases List.mem_cons.mp hl with rfl | hl
      · exact good1 hc0
      rcases List.mem_cons.mp hl with rfl | hl
      · exact good1 hc1
      · exact hg l hl
    generalize ([] :: [c0] :: [c1] :: ls : List (List Nat)) = tx at hxt gl6 gg6
    have J3 := J2.ext kt
    have k3 := k2.trans kt.kp
    generalize (L2.upd H2 t (.lst ([V.str "", V.str (sg c0), V.str (sg c1)] ++ ls.map txV))) = H3 at hxt J3 k3 kt
    obtain ⟨xs3, hxj3⟩ := J3.lst
    refine ⟨by show 0 ≤ sizeLine; decide, fun p hp => ⟨_, _, rfl, ?_⟩⟩
    have tj : t ≠ j := by
      rintro rfl
      obtain ⟨xs2, hx2⟩ := J2.lst
      rw [hx2] at ht; cases ht
    have pj : p ≠ j := by rintro rfl; rw [hxj3] at hp; cases hp
    have pt : p ≠ t := by rintro rfl; rw [hxt] at hp; cases hp
    have k4 : Kp j H (L2.upd H3 p (.lst [])) := k3.new hp
    have np : H p = none := by
      cases z : H p with
      | none => rfl
      | some o => rw [k3 p o pj z] at hp; cases hp
    refine ⟨_, rfl, sc, _, rfl, .inl (hS _ k4), _, rfl, _, _, rfl, rfl, _, _, rfl, ?_⟩
    refine ⟨_, rfl, _, rfl, _, _, rfl, rfl, j, mo + 1, _, rfl, J3.new hp, by omega, by omega, by omega, fun r5 H5 h05 h15 J5 k5 => ⟨_, _, rfl, ?_⟩⟩
    rw [List.length_map]
    generalize hz : (if r5 > (if ((ns.length : Nat) : Int) - st < 60 then ((ns.length : Nat) : Int) - st else 60) then r5 else (if ((ns.length : Nat) : Int) - st < 60 then ((ns.length : Nat) : Int) - st else 60)) = z
    have hz0 : 0 ≤ z := by rw [← hz]; split <;> split <;> omega
    have hz1 : z ≤ 300 := by rw [← hz]; split <;> split <;> omega
    refine ⟨z, rfl, by omega, by omega, ?_⟩
    have k45 := k4.trans k5
    have J5' : JarAt H5 j (n + 700) := J5.le (by omega)
    refine for_range (lo := 0) (n := z.toNat) (fun i σ H' => ∃ u7 u8 u9 u10 u11 ps ds, σ = [some (.ref sc), some (.int st), some (.ref j), some (.ref a), some (.int mo), some (.ref t), some (.ref p), u7, u8, u9, u10, u11] ∧ H' t = some (.lst (tx.map txV)) ∧ H' p = some (.lst (ps.map V.ref)) ∧ DAl K H' ps ds ∧ ds.length = i ∧ JarAt H' j (n + 700 + 300 * i) ∧ Kp j H H')
      ⟨_, _, _, _, _, [], [], rfl, k5 t _ tj (by rw [upd_ne pt.symm]; exact hxt), k5 p _ pj upd_same, .nil, rfl, J5', k45⟩ ?_ ?_
    · rintro i σ H6 hi ⟨u7, u8, u9, u10, u11, ps, ds, rfl, ht6, hp6, al6, hl6, J6, k6⟩
      have hi300 : i < 300 := by omega
      refine ⟨_, rfl, ?_⟩
      refine ⟨fun σ' H' => ∃ s, σ' = [some (.ref sc), some (.int st), some (.ref j), some (.ref a), some (.int mo), some (.ref t), some (.ref p), some (.int (0 + (i : Nat))), some (.ref s), u9, u10, u11] ∧ t ≠ s ∧ p ≠ s ∧ (s = j ∨ H s = none) ∧ H' t = some (.lst (tx.map txV)) ∧ H' p = some (.lst (ps.map V.ref)) ∧ DAl K H' ps ds ∧ JarAt H' j (n + 700 + 300 * i) ∧ JarAt H' s (n + 700 + 300 * i) ∧ Kp j H H', ?_, ?_⟩
      · refine ⟨_, rfl, _, rfl, _, _, rfl, rfl, _, rfl, sc, _, rfl, .inl (hS _ k6), _, _, rfl, rfl, _, rfl, ite2 (fun hlt => ?_) (fun _ => ?_)⟩
        · rw [List.length_map] at hlt
          have hlt' := of_decide_eq_true hlt
          refine ⟨_, rfl, _, rfl, _, rfl, _, _, rfl, rfl, sc, ns, _, rfl, hS _ k6, hns, by omega, by omega, fun s' H7 ns' J7 k7 => ⟨s', rfl, ?_, ?_, .inr ?_, k7 t _ ht6, k7 p _ hp6, al6.ext k7, J6.ext k7, J7.le (by omega), k6.trans (Ext.kp k7)⟩⟩
          · rintro rfl; rw [ht6] at ns'; cases ns'
          · rintro rfl; rw [hp6] at ns'; cases ns'
          · cases z : H s' with
            | none => rfl
            | some o =>
              have sj : s' ≠ j := by
                rintro rfl
                obtain ⟨xs6, hx6⟩ := J6.lst
                rw [hx6] at ns'; cases ns'
              rw [k6 s' o sj z] at ns'; cases ns'
        · exact ⟨j, rfl, tj, pj, .inl rfl, ht6, hp6, al6, J6, J6, k6⟩
      · rintro σ' H7 ⟨s, rfl, ts, ps', sj, ht7, hp7, al7, J7, Js7, k7⟩
        obtain ⟨xs7, hx7⟩ := Js7.lst
        have G7 : FewAt b H7 a gs := hG.kp k7 hx0
        -- all that is kept while s is drawn from
        have fin : ∀ {H' : Hp} {m : Nat}, Kp s H7 H' → JarAt H' s m → n + 700 + 300 * i ≤ m → H' t = some (.lst (tx.map txV)) ∧ H' p = some (.lst (ps.map V.ref)) ∧ DAl K H' ps ds ∧ FewAt b H' a gs ∧ JarAt H' j m ∧ Kp j H H' := by
          intro H' m k J l
          refine ⟨k t _ ts ht7, k p _ ps' hp7, al7.kp k hx7, G7.kp k hx7, ?_, ?_⟩
          · rcases sj with rfl | ns'
            · exact J
            · by_cases e : s = j
              · subst e; exact J
              · obtain ⟨a', b', c', z1, z2⟩ := J7.le l
                exact ⟨a', b', c', k j _ (Ne.symm e) z1, z2⟩
          · intro c o nc hc
            rcases sj with rfl | ns'
            · exact k c _ nc (k7 c o nc hc)
            · exact k c _ (by rintro rfl; rw [ns'] at hc; cases hc) (k7 c o nc hc)
        refine ⟨by show 4 ≤ sizeLine; decide, fun l4 hl4 => ?_⟩
        have hx4 : (L2.upd H7 l4 (.lst [V.str "put", V.str "find", V.str "strike", V.str "put"])) l4 = some (.lst [V.str "put", V.str "find", V.str "strike", V.str "put"]) := upd_same
        have l4s : l4 ≠ s := by rintro rfl; rw [hx7] at hl4; cases hl4
        have kk4 : Kp s H7 (L2.upd H7 l4 (.lst [V.str "put", V.str "find", V.str "strike", V.str "put"])) := Kp.refl.new hl4
        refine ⟨_, rfl, s, 4, _, rfl, Js7.new hl4, by omega, by decide, by decide, fun r8 H8 h08 h18 J8 k8 => ?_⟩
        obtain ⟨d, ed⟩ := four_name h08 h18
        refine ⟨l4, _, r8, _, rfl, rfl, SqL.of (k8 l4 _ l4s hx4), ed, ?_⟩
        have k78 := kk4.trans k8
        refine ⟨_, rfl, _, rfl, s, 6, _, rfl, J8, by omega, by decide, by decide, fun r9 H9 h09 h19 J9 k9 => ?_⟩
        have k79 := k78.trans k9
        obtain ⟨l, el, gl⟩ := six_text gl6 gg6 h09 h19
        refine ⟨t, _, r9, _, rfl, rfl, SqL.of (fin k79 J9 (by omega)).1, el, _, _, rfl, ?_⟩
        refine ⟨_, rfl, s, 5, _, rfl, J9, by omega, by decide, by decide, fun way H10 hw0 hw1 J10 k10 => ?_⟩
        have k710 := k79.trans k10
        refine ⟨fun σ' H' => ∃ l', σ' = [some (.ref sc), some (.int st), some (.ref j), some (.ref a), some (.int mo), some (.ref t), some (.ref p), some (.int (0 + (i : Nat))), some (.ref s), some (.str d.nm), some (.str (S l')), some (.int way)] ∧ Good l' ∧ JarAt H' s (n + 700 + 300 * i + 10) ∧ Kp s H7 H', ?_, ?_⟩
        · refine ⟨_, rfl, rfl, _, rfl, ite2 (fun _ => ?_) (fun _ => ⟨l, rfl, gl, J10.le (by omega), k710⟩)⟩
          refine ⟨_, rfl, _, rfl, s, 60, _, rfl, J10, by omega, by decide, by decide, fun r11 H11 h011 h111 J11 k11 => ⟨r11, rfl, S l, rfl, by rw [S_len, sizeLine_eq]; have := gl.2; omega, l.take r11.toNat, ?_, ?_, J11.le (by omega), k710.trans k11⟩⟩
          · rw [slice_to h011]; rfl
          · exact ⟨fun c hc => gl.1 c (List.mem_of_mem_take hc), by rw [List.length_take]; have := gl.2; omega⟩
        · rintro σ' H11 ⟨l', rfl, gl', J11, k11⟩
          refine ⟨fun σ' H' => ∃ l', σ' = [some (.ref sc), some (.int st), some (.ref j), some (.ref a), some (.int mo), some (.ref t), some (.ref p), some (.int (0 + (i : Nat))), some (.ref s), some (.str d.nm), some (.str (S l')), some (.int way)] ∧ Good l' ∧ JarAt H' s (n + 700 + 300 * i + 250) ∧ Kp s H7 H', ?_, ?_⟩
          · refine ⟨_, rfl, rfl, _, rfl, ite2 (fun _ => ?_) (fun _ => ⟨l', rfl, gl', J11.le (by omega), k11⟩)⟩
            exact ⟨_, rfl, _, rfl, s, a, _, gs, b, rfl, J11, (fin k11 J11 (by omega)).2.2.2.1, by omega, fun l2 H12 gl2 J12 k12 => ⟨l2, rfl, gl2, J12.le (by omega), k11.trans k12⟩⟩
          · rintro σ' H12 ⟨l2, rfl, gl2, J12, k12⟩
            obtain ⟨ht12, hp12, al12, _, Jj12, kj12⟩ := fin k12 J12 (by omega)
            refine ⟨_, rfl, .inl ⟨rfl, _, SqL.of hp12⟩, _, rfl, _, rfl, by show 2 ≤ sizeLine; decide, fun x hx => ?_⟩
            have kx : Ext H12 (L2.upd H12 x (.tup [V.str d.nm, V.str (S l2)])) := Ext.refl.new hx
            have hpx := kx p _ hp12
            refine ⟨p, _, _, rfl, rfl, hpx, by rw [List.length_map, al12.len, hl6, sizeLine_eq]; omega, ?_⟩
            have kq : Kp p (L2.upd H12 x (.tup [V.str d.nm, V.str (S l2)])) (L2.upd (L2.upd H12 x (.tup [V.str d.nm, V.str (S l2)])) p (.lst (ps.map V.ref ++ [.ref x]))) := .upd
            have xp : x ≠ p := by rintro rfl; rw [hp12] at hx; cases hx
            refine ⟨_, _, _, _, _, ps ++ [x], ds ++ [(d, l2)], rfl, ?_, ?_, ((al12.ext kx).kp kq hpx).snoc (SqT.of (by rw [upd_ne xp, upd_same]; rfl)) gl2, by rw [List.length_append, hl6]; rfl, ?_, ?_⟩
            · rw [upd_ne pt.symm]; exact kx t _ ht12
            · rw [upd_same, List.map_append]; rfl
            · obtain ⟨a', b', c', z1, z2⟩ := (Jj12.ext kx).le (show n + 700 + 300 * i + 250 ≤ n + 700 + 300 * (i + 1) by omega)
              exact ⟨a', b', c', by rw [upd_ne pj.symm]; exact z1, z2⟩
            · intro c o nc hc
              have ncp : c ≠ p := by rintro rfl; rw [np] at hc; cases hc
              rw [upd_ne ncp]; exact kx c _ (kj12 c o nc hc)
    · rintro σ H6 ⟨u7, u8, u9, u10, u11, ps, ds, rfl, ht6, hp6, al6, hl6, J6, k6⟩
      exact ⟨_, rfl, q p ps ds H6 np hp6 al6 (by omega) (J6.le (by omega)) k6⟩
end
end Pd

set_option maxHeartbeats 4000000
namespace Pd
open PySem PySem.Spec PyProof.Rows L2 SX
/-! ### the class Doors -/
def dflds (o1 o2 o3 o4 : Addr) : List (Str × V) := [("_put", .ref o1), ("_find", .ref o2), ("_strike", .ref o3), ("_wish", .ref o4)]
/-- doors at d, of four foldings -/
structure DrAt (K : PySem.W.Frag) (C CD : Addr) (H : Hp) (d : Addr) (o1 o2 o3 o4 r1 r2 r3 r4 : Addr) (s1 s2 s3 s4 : List Stp) : Prop where
  ins : ∃ dx, H d = some (.ins CD dx (dflds o1 o2 o3 o4))
  f1 : FoldAt K C H o1 r1 s1
  f2 : FoldAt K C H o2 r2 s2
  f3 : FoldAt K C H o3 r3 s3
  f4 : FoldAt K C H o4 r4 s4
section
variable {K : PySem.W.Frag} {C CD : Addr} {H H' : Hp} {d o1 o2 o3 o4 r1 r2 r3 r4 : Addr} {s1 s2 s3 s4 : List Stp}
theorem DrAt.ext (h : DrAt K C CD H d o1 o2 o3 o4 r1 r2 r3 r4 s1 s2 s3 s4) (k : Ext H H') : DrAt K C CD H' d o1 o2 o3 o4 r1 r2 r3 r4 s1 s2 s3 s4 := by
  obtain ⟨dx, e⟩ := h.ins
  exact ⟨⟨dx, k d _ e⟩, h.f1.ext k, h.f2.ext k, h.f3.ext k, h.f4.ext k⟩
theorem DrAt.kp {j : Addr} {xs : List V} (h : DrAt K C CD H d o1 o2 o3 o4 r1 r2 r3 r4 s1 s2 s3 s4) (k : Kp j H H') (hj : H j = some (.lst xs)) : DrAt K C CD H' d o1 o2 o3 o4 r1 r2 r3 r4 s1 s2 s3 s4 := by
  obtain ⟨dx, e⟩ := h.ins
  exact ⟨⟨dx, k d _ (by rintro rfl; rw [e] at hj; cases hj) e⟩, h.f1.kp k hj, h.f2.kp k hj, h.f3.kp k hj, h.f4.kp k hj⟩
end
structure Dcl (K : PySem.W.Frag) (mg : Str → Option Value) (CD : Addr) : Prop where
  cl : Cls K CD
  n1 : NoAttr K CD "_put"
  n2 : NoAttr K CD "_find"
  n3 : NoAttr K CD "_strike"
  n4 : NoAttr K CD "_wish"
  mgC : mg "Doors" = some (.ref CD)
def spDInit (CD : Addr) : Sp := fun vs H Q _ => ∃ (d dx o1 o2 o3 o4 : Addr), vs = [.ref d, .ref o1, .ref o2, .ref o3, .ref o4] ∧ H d = some (.ins CD dx []) ∧ Q .non (upd H d (.ins CD dx (dflds o1 o2 o3 o4)))
/-- a method that tells a field -/
def spDGet (CD : Addr) (f : Str) : Sp := fun vs H Q _ => ∃ (d dx : Addr) (fs : List (Str × V)) (v : V), vs = [.ref d] ∧ H d = some (.ins CD dx fs) ∧ fs.lookup f = some v ∧ Q v H
theorem upd_upd {H : Hp} {a : Addr} {o u : HO} : L2.upd (L2.upd H a o) a u = L2.upd H a u := by
  funext b
  by_cases h : b = a
  · subst h; rw [upd_same, upd_same]
  · rw [upd_ne h, upd_ne h, upd_ne h]
section
variable {P : Program} {w : World} {K : PySem.W.Frag} {mg : Str → Option Value} {base : Heap}
theorem ok_dinit {f CD : Addr} {fd : FuncData} (F : Fun K "__init__" "Doors.__init__" sDoorsInit f fd) (Z : Dcl K mg CD) : FnOk P w K mg base CX0 1 f fd ["self", "put", "find", "strike", "wish"] (spDInit CD) := by
  refine F.ok scDoorsInit (fun vs H Q E h => ?_) (fun cdv A outer s H vs Q E hr h => ?_)
  · obtain ⟨d, dx, o1, o2, o3, o4, rfl, _⟩ := h
    rfl
  · obtain ⟨d, dx, o1, o2, o3, o4, rfl, e, q⟩ := h
    refine ⟨_, pss_cons (ps_fld (pv 0) (pv 1) rfl) (pss_cons (ps_fld (pv 0) (pv 2) rfl) (pss_cons (ps_fld (pv 0) (pv 3) rfl) (pss_one (ps_fld (pv 0) (pv 4) rfl)))), ?_⟩
    refine ⟨_, rfl, _, rfl, d, CD, dx, _, rfl, e, Z.cl, Z.n1, by show 0 < 1000; decide, ?_⟩
    refine ⟨_, rfl, _, rfl, d, CD, dx, _, rfl, upd_same, Z.cl, Z.n2, by show 1 < 1000; decide, ?_⟩
    refine ⟨_, rfl, _, rfl, d, CD, dx, _, rfl, upd_same, Z.cl, Z.n3, by show 2 < 1000; decide, ?_⟩
    refine ⟨_, rfl, _, rfl, d, CD, dx, _, rfl, upd_same, Z.cl, Z.n4, by show 3 < 1000; decide, ?_⟩
    rw [upd_upd, upd_upd, upd_upd]
    exact q
theorem ok_dput {f CD : Addr} {fd : FuncData} (F : Fun K "put" "Doors.put" sDoorsPut f fd) (Z : Dcl K mg CD) : FnOk P w K mg base CX0 1 f fd ["self"] (spDGet CD "_put") := by
  refine F.ok scDoorsPut (fun vs H Q E h => ?_) (fun cdv A outer s H vs Q E hr h => ?_)
  · obtain ⟨d, dx, fs, v, rfl, _⟩ := h
    rfl
  · obtain ⟨d, dx, fs, v, rfl, e, l, q⟩ := h
    exact ⟨_, pss_one (ps_ret (pe_fld (pv 0) rfl)), _, rfl, d, CD, dx, _, _, rfl, e, Z.cl, Z.n1, l, q⟩
theorem ok_dfind {f CD : Addr} {fd : FuncData} (F : Fun K "find" "Doors.find" sDoorsFind f fd) (Z : Dcl K mg CD) : FnOk P w K mg base CX0 1 f fd ["self"] (spDGet CD "_find") := by
  refine F.ok scDoorsFind (fun vs H Q E h => ?_) (fun cdv A outer s H vs Q E hr h => ?_)
  · obtain ⟨d, dx, fs, v, rfl, _⟩ := h
    rfl
  · obtain ⟨d, dx, fs, v, rfl, e, l, q⟩ := h
    exact ⟨_, pss_one (ps_ret (pe_fld (pv 0) rfl)), _, rfl, d, CD, dx, _, _, rfl, e, Z.cl, Z.n2, l, q⟩
theorem ok_dstrike {f CD : Addr} {fd : FuncData} (F : Fun K "strike" "Doors.strike" sDoorsStrike f fd) (Z : Dcl K mg CD) : FnOk P w K mg base CX0 1 f fd ["self"] (spDGet CD "_strike") := by
  refine F.ok scDoorsStrike (fun vs H Q E h => ?_) (fun cdv A outer s H vs Q E hr h => ?_)
  · obtain ⟨d, dx, fs, v, rfl, _⟩ := h
    rfl
  · obtain ⟨d, dx, fs, v, rfl, e, l, q⟩ := h
    exact ⟨_, pss_one (ps_ret (pe_fld (pv 0) rfl)), _, rfl, d, CD, dx, _, _, rfl, e, Z.cl, Z.n3, l, q⟩
theorem ok_dwish {f CD : Addr} {fd : FuncData} (F : Fun K "wish" "Doors.wish" sDoorsWish f fd) (Z : Dcl K mg CD) : FnOk P w K mg base CX0 1 f fd ["self"] (spDGet CD "_wish") := by
  refine F.ok scDoorsWish (fun vs H Q E h => ?_) (fun cdv A outer s H vs Q E hr h => ?_)
  · obtain ⟨d, dx, fs, v, rfl, _⟩ := h
    rfl
  · obtain ⟨d, dx, fs, v, rfl, e, l, q⟩ := h
    exact ⟨_, pss_one (ps_ret (pe_fld (pv 0) rfl)), _, rfl, d, CD, dx, _, _, rfl, e, Z.cl, Z.n4, l, q⟩
end
/-- the class Doors: made by position; its four methods -/
structure Drs (P : Program) (w : World) (K : PySem.W.Frag) (mg : Str → Option Value) (base : Heap) (CD : Addr) : Prop where
  z : Dcl K mg CD
  made : ∃ (f : Addr) (fd : FuncData), Mk K CD f ∧ FnOk P w K mg base CX0 1 f fd ["self", "put", "find", "strike", "wish"] (spDInit CD) ∧ Binds K fd ["self", "put", "find", "strike", "wish"] []
  put : ∃ (g : Addr) (fd : FuncData), Meth K CD "put" g ∧ FnOk P w K mg base CX0 1 g fd ["self"] (spDGet CD "_put") ∧ Binds K fd ["self"] []
  find : ∃ (g : Addr) (fd : FuncData), Meth K CD "find" g ∧ FnOk P w K mg base CX0 1 g fd ["self"] (spDGet CD "_find") ∧ Binds K fd ["self"] []
  strike : ∃ (g : Addr) (fd : FuncData), Meth K CD "strike" g ∧ FnOk P w K mg base CX0 1 g fd ["self"] (spDGet CD "_strike") ∧ Binds K fd ["self"] []
  wish : ∃ (g : Addr) (fd : FuncData), Meth K CD "wish" g ∧ FnOk P w K mg base CX0 1 g fd ["self"] (spDGet CD "_wish") ∧ Binds K fd ["self"] []
/-- doors made of four foldings: what __init__ asks -/
theorem dmade_ask {K : PySem.W.Frag} {C CD : Addr} {H : Hp} {x dx o1 o2 o3 o4 r1 r2 r3 r4 : Addr} {s1 s2 s3 s4 : List Stp} {Q : VK} {E : XK} (f1 : FoldAt K C H o1 r1 s1) (f2 : FoldAt K C H o2 r2 s2) (f3 : FoldAt K C H o3 r3 s3) (f4 : FoldAt K C H o4 r4 s4)
    (hx : H x = none) (hdx : H dx = none) (ne : dx ≠ x) (q : ∀ H', DrAt K C CD H' x o1 o2 o3 o4 r1 r2 r3 r4 s1 s2 s3 s4 → Ext H H' → Q .non H') :
    spDInit CD [.ref x, .ref o1, .ref o2, .ref o3, .ref o4] (upd (upd H dx (.own x)) x (.ins CD dx [])) Q E := by
  have k : Ext H (upd (upd (upd H dx (.own x)) x (.ins CD dx [])) x (.ins CD dx (dflds o1 o2 o3 o4))) := fun b u e => by
    rw [upd_ne (ne_of_none e hx), upd_ne (ne_of_none e hx), upd_ne (ne_of_none e hdx)]; exact e
  exact ⟨x, dx, o1, o2, o3, o4, rfl, upd_same, q _ ⟨⟨dx, upd_same⟩, f1.ext k, f2.ext k, f3.ext k, f4.ext k⟩ k⟩
end Pd

set_option maxHeartbeats 4000000
namespace Pd
open PySem PySem.Spec PyProof.Rows L2 SX
/-! ### what the document says of answers -/
abbrev Fs := Dr → List Stp
def stepS (fs : Fs) (T : List Nat → Bool) (d : Deed) : List Nat → Bool := fun g => match d.1 with
  | .put => T g || decide (g = mks (fs .put) d.2)
  | .find => T g
  | .strike => decide (g ≠ mks (fs .strike) d.2) && T g
def ansS (fs : Fs) (T : List Nat → Bool) (d : Deed) : Bool := match d.1 with
  | .put => !T (mks (fs .put) d.2)
  | .find => T (mks (fs .find) d.2)
  | .strike => T (mks (fs .strike) d.2)
def walkS (fs : Fs) : (List Nat → Bool) → List Deed → List Bool
  | _, [] => []
  | T, d :: ds => ansS fs T d :: walkS fs (stepS fs T d) ds
def endS (fs : Fs) : (List Nat → Bool) → List Deed → (List Nat → Bool)
  | T, [] => T
  | T, d :: ds => endS fs (stepS fs T d) ds
def noneS : List Nat → Bool := fun _ => false
section
variable {fs : Fs} {T : List Nat → Bool}
theorem walk_append : ∀ {ds es : List Deed} {T : List Nat → Bool}, walkS fs T (ds ++ es) = walkS fs T ds ++ walkS fs (endS fs T ds) es
  | [], _, _ => rfl
  | d :: ds, es, T => by
    show ansS fs T d :: walkS fs (stepS fs T d) (ds ++ es) = _
    rw [walk_append]; rfl
theorem end_append : ∀ {ds es : List Deed} {T : List Nat → Bool}, endS fs T (ds ++ es) = endS fs (endS fs T ds) es
  | [], _, _ => rfl
  | d :: ds, es, T => end_append (ds := ds)
theorem walk_len : ∀ {ds : List Deed} {T : List Nat → Bool}, (walkS fs T ds).length = ds.length
  | [], _ => rfl
  | d :: ds, T => congrArg (· + 1) walk_len
end
/-- the forms, as keys -/
def keyS (l : List Nat) : Key := .inr (S l)
theorem keyS_inj {a b : List Nat} : keyS a = keyS b ↔ a = b := by
  constructor
  · intro h
    injection h with h
    exact SX.S_inj h
  · rintro rfl; rfl
def FrmAt (P : Program) (w : World) (H : Hp) (a : Addr) (L : List Key) (T : List Nat → Bool) : Prop := H a = some (SetL P w a L) ∧ L.Nodup ∧ ∀ g, hasK L (keyS g) = T g
theorem nm_eq (a b : Dr) : decide (V.str a.nm = V.str b.nm) = decide (a = b) := by
  cases a <;> cases b <;> decide +kernel
def spIsName : Sp := fun vs H Q _ => ∃ d : Dr, vs = [.str d.nm] ∧ Q (.bl true) H
def spIsDeed (K : PySem.W.Frag) : Sp := fun vs H Q _ => ∃ (p : Addr) (d : Deed), vs = [.ref p] ∧ SqT K H p (deedVals d) ∧ Good d.2 ∧ ∀ H', Ext H H' → Q (.bl true) H'
def spCheckDeeds (K : PySem.W.Frag) : Sp := fun vs H Q _ => ∃ (l : Addr) (ps : List Addr) (ds : List Deed), vs = [.ref l] ∧ H l = some (.lst (ps.map V.ref)) ∧ DAl K H ps ds ∧ ∀ H', Ext H H' → Q .non H'
def fkv (o1 o2 o3 : Addr) : List (Key × V) := [(.inr "put", .ref o1), (.inr "find", .ref o2), (.inr "strike", .ref o3)]
def spFoldingsOf (K : PySem.W.Frag) (C CD : Addr) : Sp := fun vs H Q _ => ∃ (d o1 o2 o3 o4 r1 r2 r3 r4 : Addr) (s1 s2 s3 s4 : List Stp), vs = [.ref d] ∧ DrAt K C CD H d o1 o2 o3 o4 r1 r2 r3 r4 s1 s2 s3 s4 ∧
  ∀ p H', H p = none → H' p = some (.dK (fkv o1 o2 o3)) → Ext H H' → Q (.ref p) H'
def dfs (s1 s2 s3 : List Stp) : Fs
  | .put => s1 | .find => s2 | .strike => s3
def spAnswers (K : PySem.W.Frag) (C CD : Addr) : Sp := fun vs H Q _ => ∃ (d l : Addr) (ps : List Addr) (ds : List Deed) (o1 o2 o3 o4 r1 r2 r3 r4 : Addr) (s1 s2 s3 s4 : List Stp), vs = [.ref d, .ref l] ∧ DrAt K C CD H d o1 o2 o3 o4 r1 r2 r3 r4 s1 s2 s3 s4 ∧
  H l = some (.lst (ps.map V.ref)) ∧ DAl K H ps ds ∧ ds.length ≤ 1000 ∧ ∀ t H', H t = none → H' t = some (.lst ((walkS (dfs s1 s2 s3) noneS ds).map V.bl)) → Ext H H' → Q (.ref t) H'
/-- the doors' constant of names -/
structure CstN (K : PySem.W.Frag) (mg : Str → Option Value) : Prop where
  names : ∃ Nd : Addr, mg "NAMES" = some (.ref Nd) ∧ ∀ H : Hp, SqT K H Nd [.str "put", .str "find", .str "strike"]
section
variable {P : Program} {w : World} {K : PySem.W.Frag} {mg : Str → Option Value} {base : Heap}
theorem ok_isName {f : Addr} {fd : FuncData} (F : Fun K "_is_name" "_is_name" sIsName f fd) (T : Nms mg) (Cn : CstN K mg) : FnOk P w K mg base CX0 1 f fd ["value"] spIsName := by
  refine F.ok scIsName (fun vs H Q E h => ?_) (fun cdv A outer s H vs Q E hr h => ?_)
  · obtain ⟨d, rfl, _⟩ := h
    rfl
  · obtain ⟨d, rfl, q⟩ := h
    have nd := scIsName.nd
    obtain ⟨Nd, mN, hN⟩ := Cn.names
    refine ⟨_, pss_one (ps_ret (pe_and (pe_callB call_isi (by rfl) T.isi (by decide +kernel) (pa_cons (pv 0) (pa_cons (pe_bltn (v := .ty "str") (by rfl) T.str (by decide +kernel) rfl) pa_nil)))
      (pe_one (pe_cmpR op_in_seq (pv 0) (pe_glob (v := .ref Nd) rfl mN rfl) rfl)))), ?_⟩
    refine ⟨_, rfl, _, _, _, _, true, rfl, .ty "str", .base (.str _), kit_ty (by decide +kernel), ?_⟩
    refine ⟨true, rfl, iteT ⟨_, rfl, Nd, _, rfl, .inr (hN H), ?_, ?_, ?_⟩⟩
    · rfl
    · decide +kernel
    · have e : inV (.str d.nm) [.str "put", .str "find", .str "strike"] = true := by cases d <;> decide +kernel
      show Q (.bl (if false = true then !inV (.str d.nm) [.str "put", .str "find", .str "strike"] else inV (.str d.nm) [.str "put", .str "find", .str "strike"])) H
      rw [e]; exact q
theorem ok_isDeed {f : Addr} {fd : FuncData} (F : Fun K "_is_deed" "_is_deed" sIsDeed f fd) (T : Nms mg) (G : Cl P w K mg base 1 "_is_name" spIsName) (G2 : Cl P w K mg base 1 "is_text" spIsText) : FnOk P w K mg base CX0 2 f fd ["value"] (spIsDeed K) := by
  refine F.ok scIsDeed (fun vs H Q E h => ?_) (fun cdv A outer s H vs Q E hr h => ?_)
  · obtain ⟨p, d, rfl, _⟩ := h
    rfl
  · obtain ⟨p, d, rfl, hp, hg, q⟩ := h
    have nd := scIsDeed.nd
    refine ⟨_, pss_one (ps_ret (pe_and (pe_callB call_isi (by rfl) T.isi (by decide +kernel) (pa_cons (pv 0) (pa_cons (pe_bltn (v := .ty "tuple") (by rfl) T.tuple (by decide +kernel) rfl) pa_nil)))
      (pe_and (pe_cmpR op_eq (pe_callB call_len_seq (by rfl) T.len PySem.boot_len (pa_cons (pv 0) pa_nil)) pe_int (nomark _))
      (pe_and (pe_cl G hr (by decide) rfl (pa_cons (pe_ix ix_tup (pv 0) pe_int (fun _ _ => rfl)) pa_nil))
      (pe_one (pe_cl G2 hr (by decide) rfl (pa_cons (pe_ix ix_tup (pv 0) pe_int (fun _ _ => rfl)) pa_nil))))))), ?_⟩
    refine ⟨_, rfl, _, _, _, _, true, rfl, .ty "tuple", sqT_ty hp, kit_ty (by decide +kernel), true, rfl, iteT ?_⟩
    refine ⟨_, rfl, p, _, rfl, .inr hp, rfl, true, rfl, iteT ?_⟩
    refine ⟨_, rfl, p, _, 0, _, rfl, rfl, hp, rfl, d.1, rfl, true, rfl, iteT ?_⟩
    refine ⟨_, rfl, p, _, 1, _, rfl, rfl, hp, rfl, d.2, rfl, (by have := hg.2; omega), fun H' k => ?_⟩
    have e : goodB d.2 = true := goodB_of hg
    rw [e]; exact q H' k
theorem ok_checkDeeds {f : Addr} {fd : FuncData} (F : Fun K "_check_deeds" "_check_deeds" sCheckDeeds f fd) (T : Nms mg) (ml : mg "list" = none) (G : Cl P w K mg base 2 "_is_deed" (spIsDeed K)) : FnOk P w K mg base CX0 3 f fd ["value"] (spCheckDeeds K) := by
  refine F.ok scCheckDeeds (fun vs H Q E h => ?_) (fun cdv A outer s H vs Q E hr h => ?_)
  · obtain ⟨l, ps, ds, rfl, _⟩ := h
    rfl
  · obtain ⟨l, ps, ds, rfl, hl, al, q⟩ := h
    have nd := scCheckDeeds.nd
    refine ⟨_, PSs.nox (pss_cons (ps_if (pt_not (pt_val (pe_callB call_isi (by rfl) T.isi (by decide +kernel) (pa_cons (pv 0) (pa_cons (pe_bltn (v := .ty "list") (by rfl) ml (by decide +kernel) rfl) pa_nil))))) pss_never pss_nil)
      (pss_one (ps_for PassesOwn.never rfl (pi_enum (by rfl) T.enum (pa_cons (pv 0) pa_nil)) (pg_tup (by rfl) (pgs_cons (pg_name (i := 1) nd rfl (Or.inl rfl)) (pgs_cons (pg_name (i := 2) nd rfl (Or.inl rfl)) pgs_nil)))
        (pss_one (ps_if (pt_not (pt_val (pe_cl G hr (by decide) rfl (pa_cons (pv 2) pa_nil)))) pss_never pss_nil))))), ?_⟩
    refine ⟨_, rfl, _, _, _, _, true, rfl, .ty "list", .base (.lst hl), kit_ty (by decide +kernel), true, rfl, iteF ?_⟩
    refine ⟨_, rfl, l, _, rfl, SqL.of hl, for_it (walk_enum (xs := ps.map V.ref)) (fun i σ H' => ∃ u v, σ = [some (.ref l), u, v] ∧ Ext H H') ⟨none, none, rfl, .refl⟩ (fun i σ H' _ p => by
      obtain ⟨u, v, _, k⟩ := p
      exact SqL.of (k l _ hl)) ?_ ?_⟩
    · rintro i x σ H2 H3 hi ⟨u, v, rfl, k2⟩ ⟨Ta, x1, y1, rfl, hT, rfl, e1, e2⟩
      obtain rfl := Option.some.inj e1
      replace e2 : (ps.map V.ref)[i]? = some y1 := e2
      rw [List.getElem?_map] at e2
      obtain ⟨p, hp, rfl⟩ := Option.map_eq_some_iff.mp e2
      obtain ⟨d, ed, hd, gd⟩ := al.get hp
      have k3 : Ext H (L2.upd H2 Ta (.tup [V.int (i : Nat), V.ref p])) := k2.new' hT
      refine ⟨Ta, _, rfl, SqT.of upd_same, rfl, _, _, rfl, _, _, rfl, rfl, ?_⟩
      exact ⟨_, rfl, p, d, rfl, sqT_keep hd (fun o x => k3 p o x), gd, fun H4 k4 => ⟨true, rfl, iteF ⟨some (.int (i : Nat)), some (.ref p), rfl, k3.trans k4⟩⟩⟩
    · rintro σ H2 ⟨u, v, rfl, k2⟩
      exact q H2 k2
theorem ok_foldingsOf {f Cf CD : Addr} {fd : FuncData} (F : Fun K "_foldings_of" "_foldings_of" sFoldingsOf f fd) (Y : Drs P w K mg base CD) : FnOk P w K mg base CX0 2 f fd ["doors"] (spFoldingsOf K Cf CD) := by
  refine F.ok scFoldingsOf (fun vs H Q E h => ?_) (fun cdv A outer s H vs Q E hr h => ?_)
  · obtain ⟨d, o1, o2, o3, o4, r1, r2, r3, r4, s1, s2, s3, s4, rfl, _⟩ := h
    rfl
  · obtain ⟨d, o1, o2, o3, o4, r1, r2, r3, r4, s1, s2, s3, s4, rfl, hD, q⟩ := h
    have nd := scFoldingsOf.nd
    obtain ⟨g1, fd1, m1, F1, b1⟩ := Y.put
    obtain ⟨g2, fd2, m2, F2, b2⟩ := Y.find
    obtain ⟨g3, fd3, m3, F3, b3⟩ := Y.strike
    refine ⟨_, pss_one (ps_ret (pe_disp (pps_cons pe_str (pe_meth0 (pv 0) Y.z.cl m1 F1 hr b1 .nil pass0) (pps_cons pe_str (pe_meth0 (pv 0) Y.z.cl m2 F2 hr b2 .nil pass0) (pps_cons pe_str (pe_meth0 (pv 0) Y.z.cl m3 F3 hr b3 .nil pass0) pps_nil))) (by rfl) (by rfl) (fun z => by cases z) (by decide))), ?_⟩
    obtain ⟨dx, e⟩ := hD.ins
    refine fun p hp => ?_
    have k0 : Ext H (L2.upd H p (.dK [])) := Ext.refl.new hp
    have e1 := k0 d _ e
    refine ⟨_, rfl, d, dx, _, rfl, e1, rfl, d, dx, _, _, rfl, e1, rfl, ?_⟩
    refine ⟨_, rfl, d, dx, _, rfl, e1, rfl, d, dx, _, _, rfl, e1, rfl, ?_⟩
    refine ⟨_, rfl, d, dx, _, rfl, e1, rfl, d, dx, _, _, rfl, e1, rfl, upd_same, fkv o1 o2 o3, rfl, by show 3 ≤ 15; decide, ?_⟩
    have em : mergeK [] (fkv o1 o2 o3) = fkv o1 o2 o3 := by rfl
    rw [em, upd_upd]
    exact q p _ hp upd_same (Ext.refl.new hp)
end
end Pd

set_option maxHeartbeats 4000000
namespace Pd
open PySem PySem.Spec PyProof.Rows L2 SX
def dof (o1 o2 o3 : Addr) : Dr → Addr
  | .put => o1 | .find => o2 | .strike => o3
theorem fkv_at (o1 o2 o3 : Addr) (d : Dr) : valV (fkv o1 o2 o3) (.inr d.nm) = some (V.ref (dof o1 o2 o3 d)) := by
  cases d <;> rfl
theorem take_snoc {α : Type} {l : List α} {i : Nat} {d : α} (h : l[i]? = some d) : l.take (i + 1) = l.take i ++ [d] := by
  rw [List.take_add_one, h]; rfl
theorem walk_take {fs : Fs} {ds : List Deed} {i : Nat} {d : Deed} (h : ds[i]? = some d) : walkS fs noneS (ds.take (i + 1)) = walkS fs noneS (ds.take i) ++ [ansS fs (endS fs noneS (ds.take i)) d] := by
  rw [take_snoc h, walk_append]; rfl
theorem end_take {fs : Fs} {ds : List Deed} {i : Nat} {d : Deed} (h : ds[i]? = some d) : endS fs noneS (ds.take (i + 1)) = stepS fs (endS fs noneS (ds.take i)) d := by
  rw [take_snoc h, end_append]; rfl
theorem FrmAt.ext {P : Program} {w : World} {H H' : Hp} {a : Addr} {L : List Key} {T : List Nat → Bool} (h : FrmAt P w H a L T) (k : Ext H H') : FrmAt P w H' a L T := ⟨k _ _ h.1, h.2⟩
section
variable {P : Program} {w : World} {K : PySem.W.Frag} {mg : Str → Option Value} {base : Heap}
theorem ok_answers {f Cf CD : Addr} {fd : FuncData} (F : Fun K "answers" "answers" sAnswers f fd) (T : Nms mg) (Z : Fol P w K mg base Cf) (G : Cl P w K mg base 3 "_check_deeds" (spCheckDeeds K)) (G2 : Cl P w K mg base 2 "_foldings_of" (spFoldingsOf K Cf CD)) : FnOk P w K mg base CX0 5 f fd ["doors", "deeds"] (spAnswers K Cf CD) := by
  refine F.ok scAnswers (fun vs H Q E h => ?_) (fun cdv A outer s H vs Q E hr h => ?_)
  · obtain ⟨d, l, ps, ds, o1, o2, o3, o4, r1, r2, r3, r4, s1, s2, s3, s4, rfl, _⟩ := h
    rfl
  · obtain ⟨d, l, ps, ds, o1, o2, o3, o4, r1, r2, r3, r4, s1, s2, s3, s4, rfl, hD, hl, al, hlen, q⟩ := h
    have nd := scAnswers.nd
    obtain ⟨g, fg, cO, FC, bC⟩ := Z.call
    have hu : (A.deeper (envOfC "answers" (defScope sAnswers) s.heap.objs.size f cdv)).units + 1 < cLine := by
      have := hr.units
      omega
    refine ⟨_, pss_cons (ps_expr (pe_cl G hr (by decide) rfl (pa_cons (pv 1) pa_nil)))
      (pss_cons (ps_set (i := 2) nd rfl (Or.inl rfl) (pe_cl G2 hr (by decide) rfl (pa_cons (pv 0) pa_nil)))
      (pss_cons (ps_set (i := 3) nd rfl (Or.inl rfl) (pe_callTy0 cr_newL (by rfl) T.set (by decide +kernel)))
      (pss_cons (ps_set (i := 4) nd rfl (Or.inl rfl) (pe_lst pa_nil))
      (pss_cons (ps_for PassesOwn.never rfl (pi_list (pv 1)) (pg_tup (by rfl) (pgs_cons (pg_name (i := 5) nd rfl (Or.inl rfl)) (pgs_cons (pg_name (i := 6) nd rfl (Or.inl rfl)) pgs_nil)))
        (pss_cons (ps_set (i := 7) nd rfl (Or.inl rfl) (pe_dget hu (pv 2) (pv 5) (fun _ _ => rfl)))
        (pss_cons (ps_set (i := 8) nd rfl (Or.inl rfl) (StX.pe_callO (pv 7) cO (FnOk.raw FC bC .nil) hr pass0 (pa_cons (pv 6) pa_nil)))
        (pss_cons (ps_set (i := 9) nd rfl (Or.inl rfl) (pe_cmpR op_inL (pv 8) (pv 3) rfl))
        (pss_cons (ps_expr (pe_bm PySem.F.plainAttrs_list PySem.F.slot_list_append PySem.F.type_list_append mt_append (pv 4) (pa_cons (pe_ifExp (pt_cmpR op_eq (pv 5) pe_str (nomark _)) (pe_not (pv 9)) (pv 9)) pa_nil)))
        (pss_one (ps_if (pt_cmpR op_eq (pv 5) pe_str (nomark _)) (pss_one (ps_expr (pe_setM PySem.F.slot_set_add PySem.F.type_set_add mt_addL (pv 3) (pv 8))))
          (pss_one (ps_if (pt_cmpR op_eq (pv 5) pe_str (nomark _)) (pss_one (ps_expr (pe_setM PySem.F.slot_set_discard PySem.F.type_set_discard mt_sdiscL (pv 3) (pv 8)))) pss_nil)))))))))
      (pss_one (ps_ret (pv 4))))))), ?_⟩
    refine ⟨_, rfl, l, ps, ds, rfl, hl, al, fun H1 k1 => ?_⟩
    refine ⟨_, rfl, d, o1, o2, o3, o4, r1, r2, r3, r4, s1, s2, s3, s4, rfl, hD.ext k1, fun fo H2 nfo hfo k2 => ?_⟩
    refine ⟨rfl, fun fa hfa => ?_⟩
    have k3 : Ext H2 (L2.upd H2 fa (SetL P w fa [])) := Ext.refl.new hfa
    refine ⟨by show 0 ≤ sizeLine; decide, fun t ht => ?_⟩
    replace ht : (L2.upd H2 fa (SetL P w fa [])) t = none := ht
    have k4 : Ext H2 (L2.upd (L2.upd H2 fa (SetL P w fa [])) t (.lst [])) := k3.new' ht
    have ta : t ≠ fa := by rintro rfl; rw [upd_same] at ht; cases ht
    have hfo3 := k3 fo _ hfo
    have foa : fo ≠ fa := by rintro rfl; rw [hfa] at hfo; cases hfo
    have fot : fo ≠ t := by rintro rfl; rw [hfo3] at ht; cases ht
    have nt2 : H2 t = none := by rw [upd_ne ta] at ht; exact ht
    have k02 := k1.trans k2
    have nt : H t = none := by
      cases z : H t with
      | none => rfl
      | some o => rw [k02 t o z] at nt2; cases nt2
    have na : H fa = none := by
      cases z : H fa with
      | none => rfl
      | some o => rw [k02 fa o z] at hfa; cases hfa
    have f0 : FrmAt P w (L2.upd (L2.upd H2 fa (SetL P w fa [])) t (.lst [])) fa [] noneS := ⟨by rw [upd_ne ta.symm]; exact upd_same, List.nodup_nil, fun g => by rw [hasK_nil]; rfl⟩
    generalize hfs : dfs s1 s2 s3 = fs at q
    have hfold : ∀ e : Dr, ∃ r, FoldAt K Cf H (dof o1 o2 o3 e) r (fs e) := fun e => by
      subst hfs
      cases e
      · exact ⟨_, hD.f1⟩
      · exact ⟨_, hD.f2⟩
      · exact ⟨_, hD.f3⟩
    have alen := al.len
    refine ⟨_, rfl, l, rfl, ⟨_, SqL.of (k4 l _ (k02 l _ hl))⟩, for_it (walk_list (xs := ps.map V.ref)) (fun i σ H' => ∃ u5 u6 u7 u8 u9 L, σ = [some (.ref d), some (.ref l), some (.ref fo), some (.ref fa), some (.ref t), u5, u6, u7, u8, u9] ∧ H' fo = some (.dK (fkv o1 o2 o3)) ∧ FrmAt P w H' fa L (endS fs noneS (ds.take i)) ∧ L.length ≤ i ∧ H' t = some (.lst ((walkS fs noneS (ds.take i)).map V.bl)) ∧ Ext H H')
      ⟨_, _, _, _, _, [], rfl, by rw [upd_ne fot]; exact hfo3, f0, Nat.le_refl _, upd_same, k02.trans k4⟩ (fun i σ H' _ p => by
      obtain ⟨u5, u6, u7, u8, u9, L, _, _, _, _, _, k⟩ := p
      exact SqL.of (k l _ hl)) ?_ ?_⟩
    · rintro i x σ H4 H5 hi ⟨u5, u6, u7, u8, u9, L, rfl, hfo5, hF5, hL5, ht5, k5⟩ ⟨rfl, hx⟩
      rw [List.getElem?_map] at hx
      obtain ⟨p, hp, rfl⟩ := Option.map_eq_some_iff.mp hx
      obtain ⟨dd, ed, hd, gd⟩ := al.get hp
      have hi' : i < ds.length := (List.getElem?_eq_some_iff.mp ed).1
      have hd5 := sqT_keep hd (fun o x => k5 p o x)
      refine ⟨p, _, rfl, hd5, rfl, _, _, rfl, _, _, rfl, rfl, ?_⟩
      have dg : DGet H5 fo (.str dd.1.nm) (some (.ref (dof o1 o2 o3 dd.1))) := by
        have z := DGet.k (k := .inr dd.1.nm) hfo5
        rw [fkv_at] at z
        exact z
      refine ⟨_, rfl, _, rfl, fo, _, rfl, dg, ?_⟩
      obtain ⟨r, hfo'⟩ := hfold dd.1
      have hf5 := hfo'.ext k5
      have hin := hf5.ins (X := cxOf CX0 P w K mg base ["doors", "deeds", "foldings", "forms", "told", "name", "text", "folding", "form", "there"] "answers" (defScope sAnswers) f cdv A outer s H E)
      have hk5 : kV (keyS (mks (fs dd.1) dd.2)) = .str (S (mks (fs dd.1) dd.2)) := rfl
      refine ⟨_, rfl, _, rfl, _, rfl, hin, dof o1 o2 o3 dd.1, r, fs dd.1, dd.2, rfl, hf5, gd, fun H6 k6 => ?_⟩
      have hF6 := hF5.ext k6
      obtain ⟨hs6, nd6, hh6⟩ := hF6
      have ht6 := k6 t _ ht5
      have hfo6 := k6 fo _ hfo5
      generalize hg : mks (fs dd.1) dd.2 = g at *
      refine ⟨_, rfl, _, rfl, keyS g, fa, L, rfl, rfl, hs6, ?_⟩
      rw [hh6]
      have ea : ansS fs (endS fs noneS (ds.take i)) dd = (match dd.1 with | .put => !endS fs noneS (ds.take i) g | _ => endS fs noneS (ds.take i) g) := by
        subst hg
        obtain ⟨a1, a2⟩ := dd
        cases a1 <;> rfl
      have wt := walk_take (fs := fs) ed
      have et := end_take (fs := fs) ed
      generalize hT : endS fs noneS (ds.take i) = T5 at *
      refine ⟨_, rfl, .inl ⟨rfl, _, SqL.of ht6⟩, ?_⟩
      have k06 := k5.trans k6
      have wl : ((walkS fs noneS (ds.take i)).map V.bl).length < sizeLine := by rw [List.length_map, walk_len, List.length_take, sizeLine_eq]; omega
      have tfa : fa ≠ t := by rintro rfl; rw [hs6] at ht6; cases ht6
      -- what is true behind this deed
      have fin : ∀ (b : Bool) (L' : List Key) (H7 : Hp) (u5 u6 u7 u8 u9 : Option V), b = ansS fs T5 dd → H7 t = some (.lst ((walkS fs noneS (ds.take i)).map V.bl ++ [V.bl b])) → H7 fa = some (SetL P w fa L') → L'.Nodup → (∀ z, hasK L' (keyS z) = stepS fs T5 dd z) → L'.length ≤ i + 1 →
          (∀ c o, c ≠ t → c ≠ fa → H6 c = some o → H7 c = some o) → ∃ u5' u6' u7' u8' u9' L, ([some (.ref d), some (.ref l), some (.ref fo), some (.ref fa), some (.ref t), u5, u6, u7, u8, u9] : L2.St) = [some (.ref d), some (.ref l), some (.ref fo), some (.ref fa), some (.ref t), u5', u6', u7', u8', u9'] ∧ H7 fo = some (.dK (fkv o1 o2 o3)) ∧ FrmAt P w H7 fa L (endS fs noneS (ds.take (i + 1))) ∧ L.length ≤ i + 1 ∧ H7 t = some (.lst ((walkS fs noneS (ds.take (i + 1))).map V.bl)) ∧ Ext H H7 := by
        intro b L' H7 u5 u6 u7 u8 u9 eb e7 ea nd' hh' ll kk
        refine ⟨_, _, _, _, _, L', rfl, kk fo _ fot foa hfo6, ⟨ea, nd', fun z => by rw [et]; exact hh' z⟩, ll, ?_, fun c o e => kk c o ?_ ?_ (k06 c o e)⟩
        · rw [wt, List.map_append, e7, eb]; rfl
        · rintro rfl; rw [nt] at e; cases e
        · rintro rfl; rw [na] at e; cases e
      have app : ∀ b : Bool, (L2.upd H6 t (.lst ((walkS fs noneS (ds.take i)).map V.bl ++ [V.bl b]))) fa = some (SetL P w fa L) := fun b => by rw [upd_ne tfa]; exact hs6
      obtain ⟨a1, a2⟩ := dd
      cases a1
      · refine ⟨_, rfl, rfl, _, rfl, ite2 (fun _ => ?_) (fun h => absurd (decide_eq_true rfl) h)⟩
        refine ⟨_, rfl, _, rfl, t, _, _, rfl, rfl, ht6, wl, ?_⟩
        refine ⟨_, rfl, rfl, _, rfl, ite2 (fun _ => ?_) (fun h => absurd (decide_eq_true rfl) h)⟩
        refine ⟨_, rfl, ⟨fa, L, rfl, app _⟩, _, rfl, fa, keyS g, L, rfl, rfl, app _, by omega, ?_⟩
        refine fin _ _ _ _ _ _ _ _ ea.symm (by rw [upd_ne tfa.symm]; exact upd_same) upd_same (addK_nodup nd6) (fun z => ?_) (by have := addK_len (L := L) (k := keyS g); omega) fun c o c1 c2 e => by rw [upd_ne c2, upd_ne c1]; exact e
        rw [hasK_add, hh6, decide_eq_decide.mpr keyS_inj]
        subst hg; rfl
      · refine ⟨_, rfl, rfl, _, rfl, ite2 (fun h => absurd (show V.str "find" = V.str "put" from of_decide_eq_true h) (by decide +kernel)) (fun _ => ?_)⟩
        refine ⟨_, rfl, t, _, _, rfl, rfl, ht6, wl, ?_⟩
        refine ⟨_, rfl, rfl, _, rfl, ite2 (fun h => absurd (show V.str "find" = V.str "put" from of_decide_eq_true h) (by decide +kernel)) (fun _ => ?_)⟩
        refine ⟨_, rfl, rfl, _, rfl, ite2 (fun h => absurd (show V.str "find" = V.str "strike" from of_decide_eq_true h) (by decide +kernel)) (fun _ => ?_)⟩
        exact fin _ L _ _ _ _ _ _ ea.symm upd_same (app _) nd6 (fun z => hh6 z) (by omega) fun c o c1 c2 e => by rw [upd_ne c1]; exact e
      · refine ⟨_, rfl, rfl, _, rfl, ite2 (fun h => absurd (show V.str "strike" = V.str "put" from of_decide_eq_true h) (by decide +kernel)) (fun _ => ?_)⟩
        refine ⟨_, rfl, t, _, _, rfl, rfl, ht6, wl, ?_⟩
        refine ⟨_, rfl, rfl, _, rfl, ite2 (fun h => absurd (show V.str "strike" = V.str "put" from of_decide_eq_true h) (by decide +kernel)) (fun _ => ?_)⟩
        refine ⟨_, rfl, rfl, _, rfl, ite2 (fun _ => ?_) (fun h => absurd (decide_eq_true rfl) h)⟩
        refine ⟨_, rfl, ⟨fa, L, rfl, app _⟩, _, rfl, fa, keyS g, L, rfl, rfl, app _, nd6, ?_⟩
        refine fin _ _ _ _ _ _ _ _ ea.symm (by rw [upd_ne tfa.symm]; exact upd_same) upd_same (offK_nodup nd6) (fun z => ?_) (by have := offK_len (L := L) (k := keyS g); omega) fun c o c1 c2 e => by rw [upd_ne c2, upd_ne c1]; exact e
        rw [hasK_off nd6, hh6, decide_eq_decide.mpr (not_congr keyS_inj)]
        subst hg; rfl
    · rintro σ H5 ⟨u5, u6, u7, u8, u9, L, rfl, hfo5, hF5, hL5, ht5, k5⟩
      have e : ds.take (ps.map V.ref).length = ds := by rw [List.length_map, alen, List.take_length]
      rw [e] at ht5
      exact ⟨_, rfl, q t H5 nt ht5 k5⟩
end
end Pd

set_option maxHeartbeats 4000000
namespace Pd
open PySem PySem.Spec PyProof.Rows L2 SX
/-! ### laws of the walk -/
section
variable {fs : Fs}
theorem walk_take' (T : List Nat → Bool) : ∀ (n : Nat) (ds : List Deed), walkS fs T (ds.take n) = (walkS fs T ds).take n := by
  intro n ds
  induction ds generalizing T n with
  | nil => cases n <;> rfl
  | cons d ds ih =>
    cases n with
    | zero => rfl
    | succ n =>
      show ansS fs T d :: walkS fs (stepS fs T d) (ds.take n) = ansS fs T d :: (walkS fs (stepS fs T d) ds).take n
      rw [ih]
def dbl {α : Type} : List α → List α
  | [] => []
  | a :: l => a :: a :: dbl l
theorem dbl_snoc {α : Type} (l : List α) (a : α) : dbl (l ++ [a]) = dbl l ++ [a, a] := by
  induction l with
  | nil => rfl
  | cons b l ih => show b :: b :: dbl (l ++ [a]) = b :: b :: (dbl l ++ [a, a]); rw [ih]
theorem dbl_len {α : Type} (l : List α) : (dbl l).length = 2 * l.length := by
  induction l with
  | nil => rfl
  | cons b l ih => show (dbl l).length + 1 + 1 = 2 * (l.length + 1); omega
def due1 (d : Deed) (b : Bool) : Bool := if d.1 = .find then b else false
def dueL : List Deed → List Bool → List Bool
  | d :: ds, b :: bs => b :: due1 d b :: dueL ds bs
  | _, _ => []
theorem due_snoc : ∀ (ds : List Deed) (bs : List Bool) (d : Deed) (b : Bool), ds.length = bs.length → dueL (ds ++ [d]) (bs ++ [b]) = dueL ds bs ++ [b, due1 d b]
  | [], [], _, _, _ => rfl
  | [], _ :: _, _, _, h => by simp at h
  | _ :: _, [], _, _, h => by simp at h
  | e :: ds, c :: bs, d, b, h => by
    show c :: due1 e c :: dueL (ds ++ [d]) (bs ++ [b]) = _
    rw [due_snoc ds bs d b (by simpa using h)]; rfl
theorem due_len : ∀ (ds : List Deed) (bs : List Bool), ds.length = bs.length → (dueL ds bs).length = 2 * ds.length
  | [], [], _ => rfl
  | [], _ :: _, h => by simp at h
  | _ :: _, [], h => by simp at h
  | e :: ds, c :: bs, h => by
    have := due_len ds bs (by simpa using h)
    show (dueL ds bs).length + 1 + 1 = 2 * (ds.length + 1)
    omega
theorem step_twice (T : List Nat → Bool) (d : Deed) : stepS fs (stepS fs T d) d = stepS fs T d := by
  obtain ⟨a, l⟩ := d
  funext g
  cases a
  · show ((T g || decide (g = mks (fs .put) l)) || decide (g = mks (fs .put) l)) = (T g || decide (g = mks (fs .put) l))
    rw [Bool.or_assoc, Bool.or_self]
  · rfl
  · show (decide (g ≠ mks (fs .strike) l) && (decide (g ≠ mks (fs .strike) l) && T g)) = (decide (g ≠ mks (fs .strike) l) && T g)
    rw [← Bool.and_assoc, Bool.and_self]
theorem ans_twice (T : List Nat → Bool) (d : Deed) : ansS fs (stepS fs T d) d = due1 d (ansS fs T d) := by
  obtain ⟨a, l⟩ := d
  cases a
  · show (!(T (mks (fs .put) l) || decide (mks (fs .put) l = mks (fs .put) l))) = false
    rw [decide_eq_true rfl, Bool.or_true]; rfl
  · rfl
  · show (decide (mks (fs .strike) l ≠ mks (fs .strike) l) && T (mks (fs .strike) l)) = false
    rw [decide_eq_false (fun h => h rfl)]; rfl
theorem walk_dbl (T : List Nat → Bool) : ∀ ds : List Deed, walkS fs T (dbl ds) = dueL ds (walkS fs T ds) := by
  intro ds
  induction ds generalizing T with
  | nil => rfl
  | cons d ds ih =>
    show ansS fs T d :: ansS fs (stepS fs T d) d :: walkS fs (stepS fs (stepS fs T d) d) (dbl ds) = ansS fs T d :: due1 d (ansS fs T d) :: dueL ds (walkS fs (stepS fs T d) ds)
    rw [step_twice, ans_twice, ih]
/-- the places of the deeds that are no finds -/
def nf (ds : List Deed) (k : Nat) : Bool := decide (ds[k]?.map (·.1) ≠ some .find)
def keptI (ds : List Deed) : List Nat := (List.range ds.length).filter (nf ds)
def sel {α : Type} (z : α) (ds : List Deed) (xs : List α) : List α := (keptI ds).map fun k => xs.getD k z
theorem kept_cons (d : Deed) (ds : List Deed) : keptI (d :: ds) = (if d.1 ≠ .find then [0] else []) ++ (keptI ds).map (· + 1) := by
  unfold keptI
  rw [List.length_cons, List.range_succ_eq_map, List.filter_cons, List.filter_map]
  have e : (nf (d :: ds) ∘ Nat.succ) = nf ds := by funext k; rfl
  rw [e]
  have e0 : nf (d :: ds) 0 = decide (d.1 ≠ .find) := by
    unfold nf
    exact decide_eq_decide.mpr (by simp)
  rw [e0]
  by_cases h : d.1 = .find
  · simp [h]
  · simp [h]
theorem sel_cons {α : Type} (z : α) (d : Deed) (ds : List Deed) (x : α) (xs : List α) : sel z (d :: ds) (x :: xs) = if d.1 ≠ .find then x :: sel z ds xs else sel z ds xs := by
  unfold sel
  rw [kept_cons]
  by_cases h : d.1 = .find
  · simp [h]
  · simp [h]
theorem walk_sel (z : Deed) (zb : Bool) (T : List Nat → Bool) : ∀ ds : List Deed, walkS fs T (sel z ds ds) = sel zb ds (walkS fs T ds) := by
  intro ds
  induction ds generalizing T with
  | nil => rfl
  | cons d ds ih =>
    rw [sel_cons]
    show _ = sel zb (d :: ds) (ansS fs T d :: walkS fs (stepS fs T d) ds)
    rw [sel_cons]
    by_cases h : d.1 = .find
    · rw [if_neg (by simp [h]), if_neg (by simp [h])]
      have e : stepS fs T d = T := by
        obtain ⟨a, l⟩ := d
        obtain rfl : a = .find := h
        rfl
      rw [ih, e]
    · rw [if_pos h, if_pos h]
      show ansS fs T d :: walkS fs (stepS fs T d) (sel z ds ds) = _
      rw [ih]
theorem DAl.sel {K : PySem.W.Frag} {H : Hp} (zp : Addr) (z : Deed) : ∀ {ps : List Addr} {ds : List Deed}, DAl K H ps ds → DAl K H (sel zp ds ps) (Pd.sel z ds ds)
  | _, _, .nil => .nil
  | _, _, .cons (d := d) h g r => by
    rw [sel_cons, sel_cons]
    by_cases e : d.1 = .find
    · rw [if_neg (by simp [e]), if_neg (by simp [e])]; exact r.sel zp z
    · rw [if_pos e, if_pos e]; exact .cons h g (r.sel zp z)
theorem DAl.dbl {K : PySem.W.Frag} {H : Hp} : ∀ {ps : List Addr} {ds : List Deed}, DAl K H ps ds → DAl K H (dbl ps) (Pd.dbl ds)
  | _, _, .nil => .nil
  | _, _, .cons h g r => .cons h g (.cons h g r.dbl)
/-- a find put in anywhere -/
theorem walk_put (T : List Nat → Bool) (l : List Nat) (a b : List Deed) : walkS fs T (a ++ (.find, l) :: b) = walkS fs T a ++ endS fs T a (mks (fs .find) l) :: walkS fs (endS fs T a) b := by
  rw [walk_append]; rfl
theorem walk_struck (h : fs .strike = fs .put) (l : List Nat) : walkS fs noneS [(.strike, l), (.put, l), (.put, l), (.strike, l), (.strike, l), (.put, l)] = [false, true, false, true, false, true] := by
  simp [walkS, ansS, stepS, noneS, h]
end
end Pd

set_option maxHeartbeats 4000000
namespace Pd
open PySem PySem.Spec PyProof.Rows L2 SX
def spCdoors (K : PySem.W.Frag) (C CD : Addr) : Sp := fun vs H Q _ => ∃ (p r1 r2 r3 r4 : Addr) (s1 s2 s3 s4 : List Stp), vs = [.ref p] ∧ H p = some (.lst [.ref r1, .ref r2, .ref r3, .ref r4]) ∧ RowAt K H r1 s1 ∧ RowAt K H r2 s2 ∧ RowAt K H r3 s3 ∧ RowAt K H r4 s4 ∧
  s1.length ≤ 6 ∧ s2.length ≤ 6 ∧ s3.length ≤ 6 ∧ s4.length ≤ 6 ∧ ∀ x o1 o2 o3 o4 H', H x = none → DrAt K C CD H' x o1 o2 o3 o4 r1 r2 r3 r4 s1 s2 s3 s4 → Ext H H' → Q (.ref x) H'
section
variable {P : Program} {w : World} {K : PySem.W.Frag} {mg : Str → Option Value} {base : Heap}
theorem ok_cdoors {f Cf CD : Addr} {fd : FuncData} (F : Fun K "_law_doors" "_law_doors" sLawDoors f fd) (Z : Fol P w K mg base Cf) (Y : Drs P w K mg base CD) : FnOk P w K mg base CX0 6 f fd ["four"] (spCdoors K Cf CD) := by
  refine F.ok scLawDoors (fun vs H Q E h => ?_) (fun cdv A outer s H vs Q E hr h => ?_)
  · obtain ⟨p, r1, r2, r3, r4, s1, s2, s3, s4, rfl, _⟩ := h
    rfl
  · obtain ⟨p, r1, r2, r3, r4, s1, s2, s3, s4, rfl, hp, R1, R2, R3, R4, b1, b2, b3, b4, q⟩ := h
    have nd := scLawDoors.nd
    obtain ⟨fi, fdi, M, FI, bI⟩ := Z.made
    obtain ⟨fj, fdj, MD, FJ, bJ⟩ := Y.made
    refine ⟨_, pss_one (ps_ret (pe_make MD FJ (hr.mono (by decide)) rfl Y.z.mgC bJ .nil pass0
          (pa_cons (pe_make M FI hr rfl Z.mgC bI .nil pass0 (pa_cons (pe_ix ix_list (pv 0) pe_int (fun _ _ => rfl)) pa_nil))
          (pa_cons (pe_make M FI hr rfl Z.mgC bI .nil pass0 (pa_cons (pe_ix ix_list (pv 0) pe_int (fun _ _ => rfl)) pa_nil))
          (pa_cons (pe_make M FI hr rfl Z.mgC bI .nil pass0 (pa_cons (pe_ix ix_list (pv 0) pe_int (fun _ _ => rfl)) pa_nil))
          (pa_cons (pe_make M FI hr rfl Z.mgC bI .nil pass0 (pa_cons (pe_ix ix_list (pv 0) pe_int (fun _ _ => rfl)) pa_nil)) pa_nil)))))), ?_⟩
    refine ⟨_, rfl, p, _, 0, .ref r1, rfl, rfl, SqL.of hp, rfl, fun x1 dx1 hx1 hdx1 ne1 => made_ask R1 b1 hx1 hdx1 ne1 fun H5 F1 k5 => ⟨rfl, ?_⟩⟩
    refine ⟨_, rfl, p, _, 1, .ref r2, rfl, rfl, SqL.of (k5 p _ hp), rfl, fun x2 dx2 hx2 hdx2 ne2 => made_ask (R2.ext k5) b2 hx2 hdx2 ne2 fun H6 F2 k6 => ⟨rfl, ?_⟩⟩
    have k56 := k5.trans k6
    refine ⟨_, rfl, p, _, 2, .ref r3, rfl, rfl, SqL.of (k56 p _ hp), rfl, fun x3 dx3 hx3 hdx3 ne3 => made_ask (R3.ext k56) b3 hx3 hdx3 ne3 fun H7 F3 k7 => ⟨rfl, ?_⟩⟩
    have k57 := k56.trans k7
    refine ⟨_, rfl, p, _, 3, .ref r4, rfl, rfl, SqL.of (k57 p _ hp), rfl, fun x4 dx4 hx4 hdx4 ne4 => made_ask (R4.ext k57) b4 hx4 hdx4 ne4 fun H8 F4 k8 => ⟨rfl, ?_⟩⟩
    refine fun x5 dx5 hx5 hdx5 ne5 => dmade_ask (((F1.ext k6).ext k7).ext k8) ((F2.ext k7).ext k8) (F3.ext k8) F4 hx5 hdx5 ne5 fun H9 D9 k9 => ⟨rfl, ?_⟩
    have k58 := k57.trans k8
    refine q x5 _ _ _ _ _ ?_ D9 (k58.trans k9)
    cases z : H x5 with
    | none => rfl
    | some o => rw [k58 x5 o z] at hx5; cases hx5
end
end Pd

set_option maxHeartbeats 4000000
namespace Pd
open PySem PySem.Spec PyProof.Rows L2 SX
/-! ### for the laws of the third family -/
structure ClU (P : Program) (w : World) (K : PySem.W.Frag) (mg : Str → Option Value) (base : Heap) (k : Nat) (x : Str) (sp : SpU) : Prop where
  ex : ∃ (f : Addr), FnU P w K mg base k f sp ∧ mg x = some (.ref f) ∧ PySem.W.keepIn K (.ref f) = true
theorem pe_clU {X : Cx} {k j : Nat} {x : Str} {sp : SpU} {e : Expr} {es : List Expr} {t : TA} {p pos : Pos} (c : ClU X.prog X.w X.K X.mg X.base k x sp) (hr : Room j X.A) (hk : k ≤ j) (hg : Gl X x) (ha : PA X (e :: es) t)
    (hdb : (x == ("__debug__" : Str)) = false := by decide) (he : starEach (e :: es) X.env = (false, eval e X.env) :: starEach es X.env := by rfl) (hpl : (backTo pos (starEach es X.env)).any (·.1) = false := by rfl) :
    PE X (.Call (.Name x p) (e :: es) [] pos) (fun σ H Q => t σ H fun vs H1 => sp vs H1 fun _ => Q) := by
  obtain ⟨f, F, hm, kp⟩ := c.ex
  exact pe_callR (E := E0) F.fnR (hr.mono hk) hg hm kp pass0 ha hdb he hpl
theorem cut_to {xs : List V} {k : Int} (h : 0 ≤ k) : cutV xs none (some k) = xs.take k.toNat := by
  have ek : k = ((k.toNat : Nat) : Int) := by omega
  unfold cutV
  rw [ek, HT.sIx_nat, HT.sIx_none, List.drop_zero, Nat.sub_zero, Int.toNat_natCast]
  by_cases h : k.toNat ≤ xs.length
  · rw [Nat.min_eq_left h]
  · rw [Nat.min_eq_right (by omega), List.take_of_length_le (Nat.le_refl _), List.take_of_length_le (by omega)]
theorem cut_from {xs : List V} {k : Int} (h : 0 ≤ k) : cutV xs (some k) none = xs.drop k.toNat := by
  have ek : k = ((k.toNat : Nat) : Int) := by omega
  unfold cutV
  rw [ek, HT.sIx_nat, HT.sIx_none, Int.toNat_natCast]
  by_cases h : k.toNat ≤ xs.length
  · rw [Nat.min_eq_left h, List.take_of_length_le (by rw [List.length_drop]; omega)]
  · rw [Nat.min_eq_right (by omega), Nat.sub_self, List.take_zero, List.drop_eq_nil_of_le (by omega)]
theorem lst_take {K : PySem.W.Frag} {H : Hp} {a : Addr} {xs : List V} {k : Int} {Q : VK} (hx : H a = some (.lst xs)) (h0 : 0 ≤ k) (q : ∀ p, H p = none → Q (.ref p) (upd H p (.lst (xs.take k.toNat)))) : rSlL K (.ref a) none (some k) H Q :=
  ⟨a, xs, rfl, SqL.of hx, fun p hp => by rw [cut_to h0]; exact q p hp⟩
theorem lst_drop {K : PySem.W.Frag} {σ : L2.St} {H : Hp} {a : Addr} {xs : List V} {k : Int} {Q : VK} (hx : H a = some (.lst xs)) (h0 : 0 ≤ k) (q : ∀ p, H p = none → Q (.ref p) (upd H p (.lst (xs.drop k.toNat)))) : tNoPart σ H fun u H3 => rSlL K (.ref a) (some k) u H3 Q :=
  (show rSlL K (.ref a) (some k) none H Q from ⟨a, xs, rfl, SqL.of hx, fun p hp => by rw [cut_from h0]; exact q p hp⟩)
theorem lst_take2 {K : PySem.W.Frag} {H : Hp} {a : Addr} {xs : List V} {k : Int} {Q : VK} (hx : H a = some (.lst xs)) (h0 : 0 ≤ k) (q : ∀ p H', Ext H H' → H' p = some (.lst (xs.take k.toNat)) → Q (.ref p) H') : rSlL K (.ref a) none (some k) H Q :=
  lst_take hx h0 fun p hp => q p _ (Ext.refl.new hp) upd_same
theorem lst_drop2 {K : PySem.W.Frag} {σ : L2.St} {H : Hp} {a : Addr} {xs : List V} {k : Int} {Q : VK} (hx : H a = some (.lst xs)) (h0 : 0 ≤ k) (q : ∀ p H', Ext H H' → H' p = some (.lst (xs.drop k.toNat)) → Q (.ref p) H') : tNoPart σ H fun u H3 => rSlL K (.ref a) (some k) u H3 Q :=
  lst_drop hx h0 fun p hp => q p _ (Ext.refl.new hp) upd_same
theorem lst_cat2 {H : Hp} {a b : Addr} {xs ys : List V} {Q : VK} (hx : H a = some (.lst xs)) (hy : H b = some (.lst ys)) (hl : xs.length + ys.length ≤ sizeLine) (q : ∀ p H', Ext H H' → H' p = some (.lst (xs ++ ys)) → Q (.ref p) H') : rCat (.ref a) (.ref b) H Q :=
  ⟨a, b, xs, ys, rfl, rfl, hx, hy, hl, fun p hp => q p _ (Ext.refl.new hp) upd_same⟩
section
variable {K : PySem.W.Frag} {b : Nat} {H H' : Hp} {l : Addr} {rs : List Addr} {rws : List (List Stp)}
theorem fourB_split (h : FourB K b H l rs rws) : ∃ r1 r2 r3 r4 s1 s2 s3 s4, rs = [r1, r2, r3, r4] ∧ rws = [s1, s2, s3, s4] ∧ RowB K b H r1 s1 ∧ RowB K b H r2 s2 ∧ RowB K b H r3 s3 ∧ RowB K b H r4 s4 ∧
    s1.length ≤ 6 ∧ s2.length ≤ 6 ∧ s3.length ≤ 6 ∧ s4.length ≤ 6 := by
  obtain ⟨_, w, l4⟩ := h
  cases w with
  | nil => simp at l4
  | cons h1 b1 w => cases w with
    | nil => simp at l4
    | cons h2 b2 w => cases w with
      | nil => simp at l4
      | cons h3 b3 w => cases w with
        | nil => simp at l4
        | cons h4 b4 w => cases w with
          | nil => exact ⟨_, _, _, _, _, _, _, _, rfl, rfl, h1, h2, h3, h4, b1, b2, b3, b4⟩
          | cons h5 b5 w => simp at l4
end
end Pd

set_option maxHeartbeats 4000000
namespace Pd
open PySem PySem.Spec PyProof.Rows L2
/-! ### a for, its body run where n tokens are out -/
theorem psn_for {n : Nat} {X : Cx} {tg over : Expr} {sts : List Stmt} {wi : TI} {g : TG} {tb : TS} {pos : Pos} (own : PassesOwn (model X.prog X.w) X.A X.env X.xe) (calm : X.calm = true) (hi : PI X tg over wi) (hg : PG X tg g) (hb : PSsn n X sts tb)
    (fs : ∀ x, foldedSetIterable over X.env x = pure x := by intro _; rfl) : PSn n X (.For tg over sts [] pos) (tFor wi g tb) := by
  constructor
  intro pins s σ H D l0 I h
  refine wpAny_For (thk l0 (hi.run pins s σ H _ I h) fun v t1 m1 k1 => thk m1 k1 fun iv t2 m2 k2 => ?_) fs
  obtain ⟨it, fp, tn, J, H2, rfl, I2, T, at2, fr2, W, ⟨q0, w0⟩, turn⟩ := k2
  have same : ∀ {G : Hp}, (∀ b ∈ fp, G b = none) → ∀ b ∈ fp, FpOk X pins G b := fun z b hb => ⟨z b hb, (fr2 b hb).2⟩
  refine codeAny_forLoop_any (fun c u => n ≤ u.toks ∧ ∃ i ρ G, Inv X pins ρ G u ∧ tn i u.heap ∧ (∀ b ∈ fp, G b = none) ∧ W i c ρ G) ?_ q0 ⟨m2, 0, σ, H2, I2, at2, fun b hb => (fr2 b hb).1, w0⟩
  rintro c u3 ⟨l3, i, ρ, G3, J3, at3, fr3, w3⟩
  rcases turn i c ρ G3 w3 with ⟨stop, fin⟩ | ⟨go, N, hN, step⟩
  · refine wpAny_passesOwn own (thn (T.done X rfl rfl rfl calm i pins u3 ρ G3 X.xe J3 (same fr3) at3 stop) ?_)
    rintro r u4 ⟨rfl, J4⟩
    exact wpAny_execs_nil ⟨ρ, G3, J4, fin⟩
  refine wpAny_passesOwn own (thk l3 (T.item X rfl rfl rfl calm i pins u3 ρ G3 X.xe J3 (same fr3) at3 go) ?_)
  rintro r u4 l4 ⟨z, rfl, k4⟩
  refine wpAny_passesOwn own (thk l4 k4 ?_)
  rintro _ u5 l5 ⟨x, G5, J5, r5, y5, at5, fr5⟩
  have J6 := J5.pinned (same fr5) (T.obj _ _ at5)
  refine wpAny_passesOwn own (thk l5 (hg.run _ u5 ρ G5 x z _ J6 r5 (step x G5 y5)) ?_)
  rintro _ u6 l6 ⟨ρ6, G6, J7, q6⟩
  refine wpAny_passesOwn own (thk l6 (hb.run _ u6 ρ6 G6 _ l6 J7 q6) ?_)
  intro f u7 l7 q7
  have more : ∀ {ρ7 : L2.St} {G7 : Hp}, Inv X (pins ++ pinsAt fp u5.heap) ρ7 G7 u7 → N ρ7 G7 → ∃ m, m < c ∧ n ≤ u7.toks ∧ ∃ i ρ' G', Inv X pins ρ' G' u7 ∧ tn i u7.heap ∧ (∀ b ∈ fp, G' b = none) ∧ W i m ρ' G' := by
    intro ρ7 G7 K7 n7
    obtain ⟨m', lt, w7⟩ := hN ρ7 G7 n7
    have pin : ∀ b ∈ fp, ∀ o, u5.heap.get? b = some o → _ := fun b hb o e => K7.pin (b, o) (List.mem_append_right _ (List.mem_append_right _ (mem_pinsAt hb e)))
    refine ⟨m', lt, l7, i + 1, ρ7, G7, K7.unpinned, T.keep _ _ _ at5 fun b hb o e => (pin b hb o e).1, fun b hb => ?_, w7⟩
    obtain ⟨o, e, _⟩ := T.obj _ _ at5 b hb
    exact (pin b hb o e).2.1
  cases f with
  | next => obtain ⟨ρ7, G7, K7, n7⟩ := q7; exact more K7 n7
  | cont => obtain ⟨ρ7, G7, K7, n7⟩ := q7; exact more K7 n7
  | brk => obtain ⟨ρ7, G7, K7, e7⟩ := q7; exact ⟨ρ7, G7, K7.unpinned, e7⟩
  | ret v => obtain ⟨x7, ρ7, G7, K7, r7, e7⟩ := q7; exact ⟨x7, ρ7, G7, K7.unpinned, r7, e7⟩
/-- two names at once, n tokens out -/
theorem psn_par {n : Nat} {X : Cx} {i j : Nat} {kx ky : Str} {e1 e2 : Expr} {tl : TA} {b1 b2 b3 b4 b5 : Pos} {k1 k2 : Nat} (calm : X.calm = true) (nd : X.N.Nodup) (hi : X.N[i]? = some kx) (hj : X.N[j]? = some ky) (ne : i ≠ j)
    (vx : X.env.scope.names.lookup kx = some .local) (vy : X.env.scope.names.lookup ky = some .local) (ha : PAn n X [e1, e2] tl)
    (sw : swappedStores [.Tuple [.Name kx b1, .Name ky b2] k1 b3] (.Tuple [e1, e2] k2 b4) X.env = pure (some [kx, ky]))
    (sole : swapsWithSole [.Tuple [.Name kx b1, .Name ky b2] k1 b3] (.Tuple [e1, e2] k2 b4) b5.line X.env = pure false := by rfl) :
    PSn n X (.Assign [.Tuple [.Name kx b1, .Name ky b2] k1 b3] (.Tuple [e1, e2] k2 b4) b5) (tPar i j tl) := by
  constructor
  intro pins s σ H D l0 I h
  rw [exec_Assign_arm]
  refine wpAny_bind (wpAny_standAt ?_)
  rw [sole]
  refine wpAny_bind (wpAny_pure ?_)
  rw [if_neg (by decide)]
  refine wpAny_bind (Tuple_ (thn (ha.run _ pins s σ H _ l0 I h) ?_))
  rintro us t1 ⟨vs, H1, J1, rs, v, z, rfl, fin⟩
  have two : ∃ c d, us = [c, d] ∧ RelV v c ∧ RelV z d := by
    rcases rs with _ | ⟨rv, rs⟩
    rcases rs with _ | ⟨rz, rs⟩
    cases rs
    exact ⟨_, _, rfl, rv, rz⟩
  obtain ⟨c, d, rfl, rv, rz⟩ := two
  refine wpAny_newObj_type ?_ (by show 2 ≤ sizeLine; decide)
  have J2 : Inv X pins σ H1 { t1 with heap := t1.heap.push { cls := .type "tuple", data := .seq [c, d].toArray } } := J1.kept (t' := t1.toks) fun b o q => Heap.get?_push_of_some _ q
  rw [sw]
  refine wpAny_bind (wpAny_pure ?_)
  show wpAny (model X.prog X.w) X.A (do rule "assign.swapped-stores"; let items ← unpackItems (.ref t1.heap.objs.size) 2 none; assignInOrder [fun v => bindName X.env ky v, fun v => bindName X.env kx v] items.reverse; pure Flow.next) _ _ _
  refine wpAny_bind (wpAny_rule (wpAny_bind (unpackItems_tuple (items := #[c, d]) (I.ok.hd calm) (IsTup.new t1.heap _) fun g hg => ?_)))
  have J3 := J2.kept (h' := g) (t' := t1.toks) fun b o q => hg b o (Nat.ne_of_lt (Heap.lt_size q)) q
  show wpAny _ _ (assignInOrder [fun v => bindName X.env ky v, fun v => bindName X.env kx v] [d, c] >>= fun _ => pure Flow.next) _ _ _
  refine wpAny_bind (assignInOrder_cons (wpAny_bindName (store_ok J3 nd hj (.inl vy) rz (fun t2 J4 => ?_) (.inr vy))))
  refine assignInOrder_cons (wpAny_bindName (store_ok J4 nd hi (.inl vx) rv (fun t3 J5 => assignInOrder_nil (wpAny_pure ?_)) (.inr vx)))
  rw [List.set_comm _ _ (Ne.symm ne)] at J5
  exact ⟨_, H1, J5, fin⟩
theorem PSsn.nox {n : Nat} {X : Cx} {sts : List Stmt} {t : TS} (h : PSsn n X.nox sts t) : PSsn n X sts t :=
  ⟨fun pins s σ H D l I q => wpAny_mono (h.run pins s σ H D l (I.wish _) q) (fun _ _ z => z.unwish) fun _ _ z => z.elim⟩
end Pd

set_option maxHeartbeats 4000000
namespace Pd
open PySem PySem.Spec PyProof.Rows L2 SX
/-! ### text.replace(step[1] + step[1], step[1]), step = ('once', a), a's token below n -/
def tReplD (to : TE) (i n : Nat) : TE := fun σ H Q => to σ H fun v H1 => ∃ x p a, v = .str x ∧ σ[i]? = some (some (.ref p)) ∧ OnceB n H1 p a ∧ a.length = 1 ∧ x.length ≤ 1000 ∧ Q (.str (Txt.replace x (a ++ a) a)) H1
theorem pen_replD {n : Nat} {X : Cx} {i : Nat} {kx : Str} {o : Expr} {to : TE} {j0 j1 j2 : Nat} {p2 p3 p4 c0 c1 c2 q0 q1 q2 q3 apos pos : Pos} (nb : PySem.W.nsIn X.K cStatics sharingNotToldKey = some none) (ho : PEn n X o to) (hN : X.N[i]? = some kx) (hv : Vis X.env.scope kx) (hd : (kx == ("__debug__" : Str)) = false := by decide)
    (hcd : (kx == ("__classdict__" : Str)) = false := by decide)
    (hst : starEach [.BinOp (.Subscript (.Name kx p2) (.Constant (.int 1) j0 c0) q0) .Add (.Subscript (.Name kx p3) (.Constant (.int 1) j1 c1) q1) q2, .Subscript (.Name kx p4) (.Constant (.int 1) j2 c2) q3] X.env =
      [(false, eval (.BinOp (.Subscript (.Name kx p2) (.Constant (.int 1) j0 c0) q0) .Add (.Subscript (.Name kx p3) (.Constant (.int 1) j1 c1) q1) q2) X.env), (false, eval (.Subscript (.Name kx p4) (.Constant (.int 1) j2 c2) q3) X.env)] := by rfl)
    (hbs : attributeBase o "replace" X.env (eval o X.env) = eval o X.env := by rfl) (hln : (apos.endLine == pos.line) = true := by rfl) :
    PEn n X (.Call (.Attribute o "replace" apos) [.BinOp (.Subscript (.Name kx p2) (.Constant (.int 1) j0 c0) q0) .Add (.Subscript (.Name kx p3) (.Constant (.int 1) j1 c1) q1) q2, .Subscript (.Name kx p4) (.Constant (.int 1) j2 c2) q3] [] pos) (tReplD to i n) := by
  constructor
  intro pins s σ H Q l I h
  refine PySem.Call_method2 hbs hst hln (thk l (ho.run pins s σ H _ l I h) ?_)
  rintro v s1 l1 ⟨y, H1, I1, r1, x, p, a, rfl, hσ, ⟨m, t0, t, hp, ht, htn⟩, ha, hz, q⟩
  obtain ⟨tx, rfl⟩ := r1
  have tup : ∀ s', Inv X pins σ H1 s' → s'.heap.IsTuple p #[.str "once" t0, .str a t] := fun s' I' => ⟨_, (I'.hok p _ hp).1, rfl, m, rfl⟩
  refine ⟨"str", _, F.plainAttrs_str, F.slot_str_replace, F.type_str_replace, typeIs_str _ _ _, (fun _ e => nomatch e), Calls.callWith_builtin rfl (Calls.evalArgs_plain (Calls.spliced_cons (wpAny_BinOp ?_)))⟩
  refine thk l1 (item_rawV (Q := fun w s' => w = Value.str a t ∧ Inv X pins σ H1 s') hN hv I1 hσ tup (by decide) (by show (1:Int) < ((2:Nat):Int); decide) (by show 2 ≤ 1000; decide) rfl (fun s2 I2 => ⟨rfl, I2⟩) (fun _ _ => rfl) hd hcd) ?_
  rintro w1 s2 l2 ⟨rfl, I2⟩
  refine thk l2 (item_rawV (Q := fun w s' => w = Value.str a t ∧ Inv X pins σ H1 s') hN hv I2 hσ tup (by decide) (by show (1:Int) < ((2:Nat):Int); decide) (by show 2 ≤ 1000; decide) rfl (fun s2 I2 => ⟨rfl, I2⟩) (fun _ _ => rfl) hd hcd) ?_
  rintro w2 s3 l3 ⟨rfl, I3⟩
  refine PySem.P.add_str ?_
  rw [if_neg (by rw [ha]; decide), if_neg (by rw [ha]; decide)]
  have l2a : (a ++ a).length = 2 := by
    have e := Str.length_append a a
    rw [e, ha]
  refine ⟨by rw [l2a]; decide, ?_⟩
  refine Calls.spliced_cons (item_rawV hN hv (I3.tok (s3.toks + 1)) hσ tup (by decide) (by show (1:Int) < ((2:Nat):Int); decide) (by show 2 ≤ 1000; decide) rfl (fun s4 I4 => Calls.spliced_nil ?_) (fun _ _ => rfl) hd hcd)
  have lt : t < s3.toks := Nat.lt_of_lt_of_le htn l3
  refine replace_all (unbooked (nb_of I4.ok.mod nb) I4) (Nat.ne_of_gt (Nat.lt_of_le_of_lt (Nat.zero_le _) lt)) ht (fun e => absurd lt (by rw [e]; exact Nat.lt_irrefl _)) (by rw [ha]; omega) fun t' k => ⟨.str (Txt.replace x (a ++ a) a), H1, I4.tok k, ⟨t', rfl⟩, q⟩
end Pd

set_option maxHeartbeats 4000000
namespace Pd
open PySem PySem.Spec PyProof.Rows L2 SX
/-! ### aa -> a, six times over, is once -/
def onceP (a : Nat) : Nat → List Nat → List Nat
  | _, [] => []
  | p, c :: t => (if c ≠ a ∨ p ≠ a then [c] else []) ++ onceP a c t
def halve (a : Nat) : List Nat → List Nat
  | [] => []
  | [x] => [x]
  | x :: y :: r => if x = a ∧ y = a then a :: halve a r else x :: halve a (y :: r)
termination_by l => l.length
def lastOf : Nat → List Nat → Nat
  | p, [] => p
  | _, c :: t => lastOf c t
theorem onceP_snoc {a c : Nat} : ∀ (u : List Nat) (p : Nat), onceP a p (u ++ [c]) = onceP a p u ++ (if c ≠ a ∨ lastOf p u ≠ a then [c] else [])
  | [], p => by
    show (if c ≠ a ∨ p ≠ a then [c] else []) ++ [] = [] ++ (if c ≠ a ∨ p ≠ a then [c] else [])
    rw [List.append_nil, List.nil_append]
  | x :: u, p => by
    show _ ++ onceP a x (u ++ [c]) = (_ ++ onceP a x u) ++ _
    rw [onceP_snoc u x, List.append_assoc]; rfl
theorem lastOf_take : ∀ (l : List Nat) (p i : Nat), i < l.length → lastOf p (l.take (i + 1)) = l.getD i 0
  | [], _, _, h => absurd h (Nat.not_lt_zero _)
  | x :: l, p, 0, _ => by simp [lastOf]
  | x :: l, p, i + 1, h => by
    show lastOf x (l.take (i + 1)) = _
    rw [lastOf_take l x i (by simpa using h)]
    simp
theorem onceN_P {a p : Nat} (hp : p ≠ a) (l : List Nat) : ∀ i : Nat, i ≤ l.length → onceN a l i = onceP a p (l.take i)
  | 0, _ => by simp [onceN, onceP]
  | i + 1, h => by
    have hi : i < l.length := h
    have e : l.take (i + 1) = l.take i ++ [l.getD i 0] := by
      rw [List.take_add_one, List.getElem?_eq_getElem hi, List.getD_eq_getElem?_getD, List.getElem?_eq_getElem hi]; rfl
    rw [onceN, onceN_P hp l i (by omega), e, onceP_snoc]
    congr 1
    have key : (keepAt a l i = true) ↔ (l.getD i 0 ≠ a ∨ lastOf p (l.take i) ≠ a) := by
      cases i with
      | zero => simp [keepAt, lastOf, hp]
      | succ j =>
        rw [lastOf_take l p j (by omega)]
        simp [keepAt]
    by_cases hk : keepAt a l i = true
    · rw [if_pos hk, if_pos (key.mp hk)]
    · rw [if_neg hk, if_neg (fun z => hk (key.mpr z))]
theorem onceL_P {a p : Nat} (hp : p ≠ a) (l : List Nat) : onceL a l = onceP a p l := by
  unfold onceL
  rw [onceN_P hp l _ (Nat.le_refl _), List.take_length]
theorem halve_pair (a : Nat) (r : List Nat) : halve a (a :: a :: r) = a :: halve a r := by
  rw [halve, if_pos ⟨rfl, rfl⟩]
theorem halve_miss {a x y : Nat} {r : List Nat} (h : ¬ (x = a ∧ y = a)) : halve a (x :: y :: r) = x :: halve a (y :: r) := by
  rw [halve, if_neg h]
theorem onceP_halve (a : Nat) : ∀ (n : Nat) (l : List Nat) (p : Nat), l.length ≤ n → onceP a p (halve a l) = onceP a p l
  | _, [], _, _ => by rw [halve]
  | _, [x], _, _ => by rw [halve]
  | 0, _ :: _ :: _, _, h => by simp at h
  | n + 1, x :: y :: r, p, h => by
    have h' : r.length + 1 ≤ n := by simpa using h
    by_cases e : x = a ∧ y = a
    · obtain ⟨e1, e2⟩ := e
      rw [e1, e2]
      rw [halve_pair]
      show _ ++ onceP a a (halve a r) = _ ++ (_ ++ onceP a a r)
      rw [onceP_halve a n r a (by omega)]
      simp
    · rw [halve_miss e]
      show _ ++ onceP a x (halve a (y :: r)) = _ ++ onceP a x (y :: r)
      rw [onceP_halve a n (y :: r) x (by simpa using h')]
theorem onceP_first {a p : Nat} (hp : p ≠ a) (l : List Nat) : (onceP a p l).length ≤ 1 + (onceP a a l).length := by
  cases l with
  | nil => simp [onceP]
  | cons c t =>
    show ((if c ≠ a ∨ p ≠ a then [c] else []) ++ onceP a c t).length ≤ 1 + ((if c ≠ a ∨ a ≠ a then [c] else []) ++ onceP a c t).length
    rw [if_pos (.inr hp), List.length_append, List.length_append]
    show 1 + _ ≤ _
    omega
theorem halve_len {a p : Nat} (hp : p ≠ a) : ∀ (n : Nat) (l : List Nat), l.length ≤ n → 2 * (halve a l).length ≤ l.length + (onceP a p l).length
  | _, [], _ => by rw [halve]; simp
  | _, [x], _ => by
    rw [halve]
    show 2 * 1 ≤ 1 + ((if x ≠ a ∨ p ≠ a then [x] else []) ++ []).length
    rw [if_pos (.inr hp)]; show 2 ≤ 1 + 1; decide
  | 0, _ :: _ :: _, h => by simp at h
  | n + 1, x :: y :: r, h => by
    have h' : r.length + 1 ≤ n := by simpa using h
    by_cases e : x = a ∧ y = a
    · obtain ⟨e1, e2⟩ := e
      rw [e1, e2]
      have ih := halve_len hp n r (by omega)
      have f := onceP_first hp r
      rw [halve_pair]
      have e2 : onceP a p (a :: a :: r) = a :: onceP a a r := by
        show (if a ≠ a ∨ p ≠ a then [a] else []) ++ ((if a ≠ a ∨ a ≠ a then [a] else []) ++ onceP a a r) = _
        rw [if_pos (.inr hp), if_neg (by simp)]; rfl
      rw [e2]
      simp only [List.length_cons]
      omega
    · have ih := halve_len hp n (y :: r) (by simpa using h')
      rw [halve_miss e]
      have e2 : onceP a p (x :: y :: r) = x :: onceP a p (y :: r) := by
        show (if x ≠ a ∨ p ≠ a then [x] else []) ++ ((if y ≠ a ∨ x ≠ a then [y] else []) ++ onceP a y r) = x :: ((if y ≠ a ∨ p ≠ a then [y] else []) ++ onceP a y r)
        have hyx : y ≠ a ∨ x ≠ a := by
          by_cases hx : x = a
          · exact .inl fun hy => e ⟨hx, hy⟩
          · exact .inr hx
        rw [if_pos (.inr hp), if_pos hyx, if_pos (.inr hp)]; rfl
      rw [e2]
      simp only [List.length_cons] at ih ⊢
      omega
theorem onceP_le (a : Nat) : ∀ (l : List Nat) (p : Nat), (onceP a p l).length ≤ l.length
  | [], _ => by simp [onceP]
  | c :: t, p => by
    have := onceP_le a t c
    show ((if c ≠ a ∨ p ≠ a then [c] else []) ++ onceP a c t).length ≤ t.length + 1
    rw [List.length_append]
    split
    · show 1 + _ ≤ _; omega
    · show 0 + _ ≤ _; omega
theorem onceP_same (a : Nat) : ∀ (l : List Nat) (p : Nat), (onceP a p l).length = l.length → onceP a p l = l
  | [], _, _ => rfl
  | c :: t, p, h => by
    have z : ((if c ≠ a ∨ p ≠ a then [c] else []) ++ onceP a c t).length = t.length + 1 := h
    have le := onceP_le a t c
    rw [List.length_append] at z
    show (if c ≠ a ∨ p ≠ a then [c] else []) ++ onceP a c t = c :: t
    by_cases k : c ≠ a ∨ p ≠ a
    · rw [if_pos k] at z ⊢
      have := onceP_same a t c (by show _ = _; have : ([c] : List Nat).length = 1 := rfl; omega)
      rw [this]; rfl
    · rw [if_neg k] at z
      have : ([] : List Nat).length = 0 := rfl
      omega
def halves (a : Nat) (l : List Nat) : Nat → List Nat
  | 0 => l
  | i + 1 => halve a (halves a l i)
theorem halves_once {a p : Nat} (hp : p ≠ a) (l : List Nat) : ∀ i : Nat, onceP a p (halves a l i) = onceP a p l
  | 0 => rfl
  | i + 1 => by
    show onceP a p (halve a (halves a l i)) = _
    rw [onceP_halve a _ _ p (Nat.le_refl _), halves_once hp l i]
theorem halves_len {a p : Nat} (hp : p ≠ a) (l : List Nat) : ∀ i : Nat, (halves a l i).length - (onceP a p l).length ≤ (l.length - (onceP a p l).length) / 2 ^ i
  | 0 => by simp [halves]
  | i + 1 => by
    have ih := halves_len hp l i
    have s := halve_len hp _ (halves a l i) (Nat.le_refl _)
    rw [halves_once hp l i] at s
    have e : (halve a (halves a l i)).length - (onceP a p l).length ≤ ((halves a l i).length - (onceP a p l).length) / 2 := by omega
    show (halve a (halves a l i)).length - _ ≤ _
    rw [Nat.pow_succ, ← Nat.div_div_eq_div_mul]
    exact Nat.le_trans e (Nat.div_le_div_right ih)
theorem halves_six {a : Nat} {l : List Nat} (h : l.length ≤ 60) : halves a l 6 = onceL a l := by
  have hp : a + 1 ≠ a := by omega
  rw [onceL_P hp l]
  have z := halves_len hp l 6
  have z0 : (l.length - (onceP a (a + 1) l).length) / 2 ^ 6 = 0 := Nat.div_eq_of_lt (by show _ < 64; omega)
  rw [z0] at z
  have o := halves_once hp l 6
  have le := onceP_le a (halves a l 6) (a + 1)
  rw [o] at le
  have s := onceP_same a (halves a l 6) (a + 1) (by rw [o]; omega)
  rw [← s, o]
theorem halve_S (a : Nat) : ∀ (n : Nat) (l : List Nat), l.length ≤ n → PySem.StrLaws.replL [a, a] [a] l = halve a l
  | _, [], _ => by rw [PySem.StrLaws.replL_nil, halve]
  | _, [x], _ => by
    rw [PySem.StrLaws.replL_miss (by simp), PySem.StrLaws.replL_nil, halve]
  | 0, _ :: _ :: _, h => by simp at h
  | n + 1, x :: y :: r, h => by
    have h' : r.length + 1 ≤ n := by simpa using h
    by_cases e : x = a ∧ y = a
    · obtain ⟨e1, e2⟩ := e
      rw [e1, e2]
      rw [PySem.StrLaws.replL_hit (by simp) (by simp), halve_pair]
      show a :: PySem.StrLaws.replL [a, a] [a] r = _
      rw [halve_S a n r (by omega)]
    · rw [PySem.StrLaws.replL_miss (by simpa using e), halve_miss e, halve_S a n (y :: r) (by simpa using h')]
theorem replace_halve (a : Nat) (l : List Nat) : Txt.replace (S l) (sg a ++ sg a) (sg a) = S (halve a l) := by
  refine TL.ext_tl ?_
  have e0 : (sg a ++ sg a) = S [a, a] := by rw [sg_S, S_cat]; rfl
  rw [e0]
  have e := PySem.StrLaws.replace_list (x := S l) (y := S [a, a]) (z := sg a) (by rw [S_len]; show 1 ≤ 2; decide)
  refine e.trans ?_
  exact halve_S a _ l (Nat.le_refl _)
theorem halve_mem {a c : Nat} : ∀ (n : Nat) (l : List Nat), l.length ≤ n → c ∈ halve a l → c ∈ l
  | _, [], _, h => by rw [halve] at h; exact h
  | _, [x], _, h => by rw [halve] at h; exact h
  | 0, _ :: _ :: _, h, _ => by simp at h
  | n + 1, x :: y :: r, h, m => by
    have h' : r.length + 1 ≤ n := by simpa using h
    by_cases e : x = a ∧ y = a
    · obtain ⟨e1, e2⟩ := e
      rw [e1, e2] at m ⊢
      rw [halve_pair] at m
      rcases List.mem_cons.mp m with rfl | m
      · exact List.mem_cons_self ..
      · exact List.mem_cons_of_mem _ (List.mem_cons_of_mem _ (halve_mem n r (by omega) m))
    · rw [halve_miss e] at m
      rcases List.mem_cons.mp m with rfl | m
      · exact List.mem_cons_self ..
      · exact List.mem_cons_of_mem _ (halve_mem n (y :: r) (by simpa using h') m)
theorem halve_good {a : Nat} {l : List Nat} (h : Good l) : Good (halve a l) := by
  have hp : a + 1 ≠ a := by omega
  have s := halve_len hp _ l (Nat.le_refl _)
  have le := onceP_le a l (a + 1)
  exact ⟨fun c hc => h.1 c (halve_mem _ l (Nat.le_refl _) hc), by have := h.2; omega⟩
end Pd

set_option maxHeartbeats 4000000
namespace Pd
open PySem PySem.Spec PyProof.Rows L2 SX
def spCmade (n : Nat) : Sp := fun vs H Q _ => ∃ (p : Addr) (st : Stp) (l : List Nat), vs = [.ref p, .str (S l)] ∧ StpB n H p st ∧ st.ok ∧ Good l ∧ ∀ H', Ext H H' → Q (.str (S (mk st l))) H'
def spCfold (K : PySem.W.Frag) (n : Nat) : Sp := fun vs H Q _ => ∃ (r : Addr) (sts : List Stp) (l : List Nat), vs = [.ref r, .str (S l)] ∧ RowB K n H r sts ∧ Good l ∧ ∀ H', Ext H H' → Q (.str (S (mks sts l))) H'
section
variable {P : Program} {w : World} {K : PySem.W.Frag} {mg : Str → Option Value} {base : Heap}
theorem ok_cmade {f : Addr} {fd : FuncData} (n : Nat) (F : Fun K "_law_made" "_law_made" sLawMade f fd) (T : Nms mg) (nb : PySem.W.nsIn K cStatics sharingNotToldKey = some none) : FnN n P w K mg base 1 f (spCmade n) := by
  refine fnN_of F scLawMade (fun kV doc pm an cdv ct us hl => match us, hl with | [_, _], _ => rfl) (fun vs H Q E h => ?_) (fun cdv A outer s H vs Q E hr h => ?_)
  · obtain ⟨p, st, l, rfl, _⟩ := h
    rfl
  · obtain ⟨p, st, l, rfl, hst, hok, hG, q⟩ := h
    have nd := scLawMade.nd
    refine ⟨_, PSsn.nox (pssn_cons (psn (ps_if (pt_cmpR op_eq (pe_ix ix_tup (pv 0) pe_int (fun _ _ => rfl)) pe_str (nomark _)) (pss_one (ps_ret (pe_lower (pv 1)))) pss_nil))
      (pssn_cons (psn (ps_if (pt_cmpR op_eq (pe_ix ix_tup (pv 0) pe_int (fun _ _ => rfl)) pe_str (nomark _)) (pss_one (ps_ret (pe_replV (i := 0) nb (pv 1) rfl (.inr (.inl rfl))))) pss_nil))
      (pssn_cons (psn (ps_if (pt_cmpR op_eq (pe_ix ix_tup (pv 0) pe_int (fun _ _ => rfl)) pe_str (nomark _)) (pss_one (ps_ret (pe_join pe_str
        (pe_lc (own := [("sign", 3)]) (g := gName 3) rfl nd (pi_str (pv 1)) (blkOk_by (N := ["step", "text", "turn", "sign"]) (sc := defScope sLawMade) (by decide +kernel)) (fun _ _ _ _ _ => pg_name (i := 3) nd rfl (Or.inl rfl)) (fun _ _ _ _ _ => pts_one (pt_cmpR op_notIn_sign (pv 3) (pe_ix (ix_tupK (K := K) rfl) (pv 0) pe_int (fun _ _ => rfl)) rfl))
          (fun _ _ _ _ _ => pv 3))))) pss_nil))
      (pssn_cons (psn (ps_if (pt_cmpR op_eq (pe_ix ix_tup (pv 0) pe_int (fun _ _ => rfl)) pe_str (nomark _)) (pss_one (ps_ret (pe_m1 PySem.F.slot_str_lstrip PySem.F.type_str_lstrip mt_lstripChars (pv 1) (pe_ix ix_tup (pv 0) pe_int (fun _ _ => rfl))))) pss_nil))
      (pssn_cons (psn_if (ptn (pt_cmpR op_eq (pe_ix ix_tup (pv 0) pe_int (fun _ _ => rfl)) pe_str (nomark _)))
        (pssn_cons (psn_for PassesOwn.never rfl (pi_range1 rfl T.range (pa_cons pe_int pa_nil)) (pg_name (i := 2) nd rfl (Or.inl rfl)) (pssn_one (psn_set (i := 1) nd rfl (Or.inl rfl) (pen_replD (i := 0) nb (pen (pv 1)) rfl (.inr (.inl rfl))))))
          (pssn_one (psn (ps_ret (pv 1))))) (pssn pss_nil))
      (pssn_one (psn (ps_ret (pe_slice C8.sl_txt (pv 1) po_none (po_some (pe_ix ix_tup (pv 0) pe_int (fun _ _ => rfl)))))))))))), ?_⟩
    have hl60 := hG.2
    have hw : ∀ {H' : Hp}, Ext H H' → SqT K H' p (stpVals st) := fun k => (hst.1.ext k).seq
    have in0 : ∀ {c : Nat} {H' : Hp}, Ext H H' → SqT K H' p (stpVals st) := fun k => (hst.1.ext k).seq
    have wa := word_at st
    have sq := hst.1.seq (K := K)
    cases st with
    | low =>
      refine ⟨_, rfl, p, _, 0, _, rfl, rfl, sq, wa, rfl, _, rfl, ite2 (fun _ => ?_) (fun h => absurd (decide_eq_true rfl) h)⟩
      refine ⟨_, rfl, ⟨_, rfl⟩, _, rfl, rfl, by rw [S_len]; omega, ?_⟩
      rw [lower_mk hG]
      exact q H .refl
    | swap a b =>
      refine ⟨_, rfl, p, _, 0, _, rfl, rfl, sq, wa, rfl, _, rfl, ite2 (fun h => absurd (show V.str "swap" = V.str "lower" from of_decide_eq_true h) (by decide +kernel)) (fun _ => ?_)⟩
      refine ⟨_, rfl, p, _, 0, _, rfl, rfl, sq, wa, rfl, _, rfl, ite2 (fun _ => ?_) (fun h => absurd (decide_eq_true rfl) h)⟩
      refine ⟨_, rfl, S l, p, sg a, sg b, rfl, rfl, hst.1, ?_, ?_⟩
      · have e : (sg b).length = 1 := rfl
        rw [S_len, e]; omega
      · rw [replace_mk]
        exact q H .refl
    | drop cs =>
      refine ⟨_, rfl, p, _, 0, _, rfl, rfl, sq, wa, rfl, _, rfl, ite2 (fun h => absurd (show V.str "drop" = V.str "lower" from of_decide_eq_true h) (by decide +kernel)) (fun _ => ?_)⟩
      refine ⟨_, rfl, p, _, 0, _, rfl, rfl, sq, wa, rfl, _, rfl, ite2 (fun h => absurd (show V.str "drop" = V.str "swap" from of_decide_eq_true h) (by decide +kernel)) (fun _ => ?_)⟩
      refine ⟨_, rfl, p, _, 0, _, rfl, rfl, sq, wa, rfl, _, rfl, ite2 (fun _ => ?_) (fun h => absurd (decide_eq_true rfl) h)⟩
      refine ⟨⟨_, rfl⟩, _, rfl, _, rfl, fun D' hD => lc_text (fun c => if c ∉ cs then some c else none) (by omega) hD (fun c H2 acc Nx hc k2 hacc hal nx => ⟨rfl, ?_⟩) fun H2 h2 k2 => ?_⟩
      · refine ⟨_, rfl, _, rfl, p, _, 1, .str (S cs), rfl, rfl, in0 (c := 0) k2, rfl, c, S cs, rfl, rfl, _, rfl, ?_⟩
        show if (!decide (c ∈ cs)) = true then _ else _
        by_cases hc : c ∈ cs
        · rw [decide_eq_true hc]
          refine iteF (nx H2 ?_ k2)
          rw [if_neg (fun h => h hc)]
          show H2 D' = some (.lst (acc ++ []))
          rw [List.append_nil]; exact hacc
        · rw [decide_eq_false hc]
          refine iteT ⟨_, rfl, acc, hacc, hal, nx _ ?_ (k2.new hD)⟩
          rw [if_pos hc]; exact upd_same
      · rw [← mk_drop] at h2
        exact join_ask h2 (Nat.le_trans (mk_len _ l) (by omega)) (q H2 k2)
    | lead a =>
      refine ⟨_, rfl, p, _, 0, _, rfl, rfl, sq, wa, rfl, _, rfl, ite2 (fun h => absurd (show V.str "lead" = V.str "lower" from of_decide_eq_true h) (by decide +kernel)) (fun _ => ?_)⟩
      refine ⟨_, rfl, p, _, 0, _, rfl, rfl, sq, wa, rfl, _, rfl, ite2 (fun h => absurd (show V.str "lead" = V.str "swap" from of_decide_eq_true h) (by decide +kernel)) (fun _ => ?_)⟩
      refine ⟨_, rfl, p, _, 0, _, rfl, rfl, sq, wa, rfl, _, rfl, ite2 (fun h => absurd (show V.str "lead" = V.str "drop" from of_decide_eq_true h) (by decide +kernel)) (fun _ => ?_)⟩
      refine ⟨_, rfl, p, _, 0, _, rfl, rfl, sq, wa, rfl, _, rfl, ite2 (fun _ => ?_) (fun h => absurd (decide_eq_true rfl) h)⟩
      refine ⟨_, rfl, ⟨_, rfl⟩, _, rfl, p, _, 1, .str (sg a), rfl, rfl, in0 (c := 0) .refl, rfl, _, _, rfl, rfl, by rw [S_len, sizeLine_eq]; omega, ?_⟩
      rw [lstrip_mk]
      exact q H .refl
    | once a =>
      refine ⟨_, rfl, p, _, 0, _, rfl, rfl, sq, wa, rfl, _, rfl, ite2 (fun h => absurd (show V.str "once" = V.str "lower" from of_decide_eq_true h) (by decide +kernel)) (fun _ => ?_)⟩
      refine ⟨_, rfl, p, _, 0, _, rfl, rfl, sq, wa, rfl, _, rfl, ite2 (fun h => absurd (show V.str "once" = V.str "swap" from of_decide_eq_true h) (by decide +kernel)) (fun _ => ?_)⟩
      refine ⟨_, rfl, p, _, 0, _, rfl, rfl, sq, wa, rfl, _, rfl, ite2 (fun h => absurd (show V.str "once" = V.str "drop" from of_decide_eq_true h) (by decide +kernel)) (fun _ => ?_)⟩
      refine ⟨_, rfl, p, _, 0, _, rfl, rfl, sq, wa, rfl, _, rfl, ite2 (fun h => absurd (show V.str "once" = V.str "lead" from of_decide_eq_true h) (by decide +kernel)) (fun _ => ?_)⟩
      refine ⟨_, rfl, p, _, 0, _, rfl, rfl, sq, wa, rfl, _, rfl, ite2 (fun _ => ?_) (fun h => absurd (decide_eq_true rfl) h)⟩
      have gh : ∀ i, Good (halves a l i) := fun i => by
        induction i with
        | zero => exact hG
        | succ i ih => exact halve_good ih
      refine ⟨6, rfl, by decide, by decide, ?_⟩
      refine for_range (lo := 0) (n := 6) (fun i σ H' => ∃ u v, σ = [some (.ref p), some (.str (S (halves a l i))), u, v] ∧ Ext H H') ⟨_, _, rfl, .refl⟩ ?_ ?_
      · rintro i σ H2 hi ⟨u, v, rfl, k2⟩
        have g2 := (gh i).2
        refine ⟨_, rfl, S (halves a l i), p, sg a, rfl, rfl, (hst.ext k2).2 a rfl, rfl, by rw [S_len]; omega, ?_⟩
        rw [replace_halve]
        exact ⟨_, _, rfl, k2⟩
      · rintro σ H2 ⟨u, v, rfl, k2⟩
        refine ⟨_, rfl, ?_⟩
        rw [halves_six hl60]
        exact q H2 k2
    | cut n =>
      refine ⟨_, rfl, p, _, 0, _, rfl, rfl, sq, wa, rfl, _, rfl, ite2 (fun h => absurd (show V.str "cut" = V.str "lower" from of_decide_eq_true h) (by decide +kernel)) (fun _ => ?_)⟩
      refine ⟨_, rfl, p, _, 0, _, rfl, rfl, sq, wa, rfl, _, rfl, ite2 (fun h => absurd (show V.str "cut" = V.str "swap" from of_decide_eq_true h) (by decide +kernel)) (fun _ => ?_)⟩
      refine ⟨_, rfl, p, _, 0, _, rfl, rfl, sq, wa, rfl, _, rfl, ite2 (fun h => absurd (show V.str "cut" = V.str "drop" from of_decide_eq_true h) (by decide +kernel)) (fun _ => ?_)⟩
      refine ⟨_, rfl, p, _, 0, _, rfl, rfl, sq, wa, rfl, _, rfl, ite2 (fun h => absurd (show V.str "cut" = V.str "lead" from of_decide_eq_true h) (by decide +kernel)) (fun _ => ?_)⟩
      refine ⟨_, rfl, p, _, 0, _, rfl, rfl, sq, wa, rfl, _, rfl, ite2 (fun h => absurd (show V.str "cut" = V.str "once" from of_decide_eq_true h) (by decide +kernel)) (fun _ => ?_)⟩
      refine ⟨_, rfl, _, rfl, p, _, 1, .int (n : Nat), rfl, rfl, in0 (c := 0) .refl, rfl, (n : Nat), rfl, S l, rfl, by rw [S_len, sizeLine_eq]; omega, ?_⟩
      rw [slice_to (by omega), Int.toNat_natCast]
      exact q H .refl
theorem ok_cfold {f : Addr} {fd : FuncData} (n : Nat) (F : Fun K "_law_fold" "_law_fold" sLawFold f fd) (G : ∃ g, FnN n P w K mg base 1 g (spCmade n) ∧ mg "_law_made" = some (.ref g) ∧ PySem.W.keepIn K (.ref g) = true) : FnN n P w K mg base 2 f (spCfold K n) := by
  refine fnN_of F scLawFold (fun kV doc pm an cdv ct us hl => match us, hl with | [_, _], _ => rfl) (fun vs H Q E h => ?_) (fun cdv A outer s H vs Q E hr h => ?_)
  · obtain ⟨p, st, l, rfl, _⟩ := h
    rfl
  · obtain ⟨r, sts, l, rfl, ⟨ps, hr0, al⟩, hG, q⟩ := h
    have nd := scLawFold.nd
    obtain ⟨g, FG, mG, kG⟩ := G
    refine ⟨_, PSsn.nox (pssn_cons (psn_for PassesOwn.never rfl (pi_tup (pv 0)) (pg_name (i := 2) nd rfl (Or.inl rfl)) (pssn_one (psn_set (i := 1) nd rfl (Or.inl rfl) (pen_callN (E := E0) FG hr rfl mG kG (pan (pa_cons (pv 2) (pa_cons (pv 1) pa_nil))))))) (pssn_one (psn (ps_ret (pv 1))))), ?_⟩
    refine ⟨_, rfl, r, rfl, ⟨_, hr0⟩, for_it (walk_tup (xs := ps.map V.ref)) (fun i σ H' => ∃ u, σ = [some (.ref r), some (.str (S (mks (sts.take i) l))), u] ∧ Ext H H') ⟨none, by rw [List.take_zero]; rfl, .refl⟩ (fun i σ H' _ p => by
      obtain ⟨u, _, k⟩ := p
      exact sqT_keep hr0 (fun o x => k r o x)) ?_ ?_⟩
    · rintro i x σ H2 H3 hi ⟨u, rfl, k2⟩ ⟨rfl, hx⟩
      rw [List.getElem?_map] at hx
      obtain ⟨p, hp, rfl⟩ := Option.map_eq_some_iff.mp hx
      obtain ⟨st, e, hst, ok⟩ := al.get hp
      have gd : Good (mks (sts.take i) l) := mks_good (fun s hs => al.al.ok s (List.mem_of_mem_take hs)) hG
      refine ⟨_, rfl, _, rfl, p, st, _, rfl, hst.ext k2, ok, gd, fun H4 k4 => ⟨some (.ref p), ?_, k2.trans k4⟩⟩
      rw [mks_take l e]
      rfl
    · rintro σ H2 ⟨u, rfl, k2⟩
      refine ⟨_, rfl, ?_⟩
      rw [List.length_map, al.al.len, List.take_length]
      exact q H2 k2
end
end Pd

set_option maxHeartbeats 4000000
namespace Pd
open PySem PySem.Spec PyProof.Rows L2 SX
/-- a dict of forms and truths: which are there -/
def DicAt (H : Hp) (a : Addr) (T : List Nat → Bool) (n : Nat) : Prop := ∃ kvs : List (Key × V), H a = some (.dK kvs) ∧ kvs.length ≤ n ∧ ∀ g, (valV kvs (keyS g) = some (.bl (T g))) ∨ (valV kvs (keyS g) = none ∧ T g = false)
def spCwalk (K : PySem.W.Frag) (n : Nat) : Sp := fun vs H Q _ => ∃ (p l r1 r2 r3 r4 : Addr) (s1 s2 s3 s4 : List Stp) (ps : List Addr) (ds : List Deed), vs = [.ref p, .ref l] ∧ H p = some (.lst [.ref r1, .ref r2, .ref r3, .ref r4]) ∧ RowB K n H r1 s1 ∧ RowB K n H r2 s2 ∧ RowB K n H r3 s3 ∧ RowB K n H r4 s4 ∧
  H l = some (.lst (ps.map V.ref)) ∧ DAl K H ps ds ∧ ds.length ≤ 1000 ∧ ∀ t H', H t = none → H' t = some (.lst ((walkS (dfs s1 s2 s3) noneS ds).map V.bl)) → Ext H H' → Q (.ref t) H'
def noD : Dr → Nat
  | .put => 0 | .find => 1 | .strike => 2
theorem bool_get {kvs : List (Key × V)} {g : List Nat} {T : List Nat → Bool} (h : (valV kvs (keyS g) = some (.bl (T g))) ∨ (valV kvs (keyS g) = none ∧ T g = false)) : (valV kvs (keyS g)).getD (V.bl false) = .bl (T g) := by
  rcases h with h | ⟨h, e⟩
  · rw [h]; rfl
  · rw [h, e]; rfl
section
variable {P : Program} {w : World} {K : PySem.W.Frag} {mg : Str → Option Value} {base : Heap}
theorem ok_cwalk {f : Addr} {fd : FuncData} (n : Nat) (F : Fun K "_law_walk" "_law_walk" sLawWalk f fd) (G : ∃ g, FnN n P w K mg base 2 g (spCfold K n) ∧ mg "_law_fold" = some (.ref g) ∧ PySem.W.keepIn K (.ref g) = true) : FnN n P w K mg base 3 f (spCwalk K n) := by
  refine fnN_of F scLawWalk (fun kV doc pm an cdv ct us hl => match us, hl with | [_, _], _ => rfl) (fun vs H Q E h => ?_) (fun cdv A outer s H vs Q E hr h => ?_)
  · obtain ⟨p, l, r1, r2, r3, r4, s1, s2, s3, s4, ps, ds, rfl, _⟩ := h
    rfl
  · obtain ⟨p, l, r1, r2, r3, r4, s1, s2, s3, s4, ps, ds, rfl, hp, R1, R2, R3, R4, hl, al, hlen, q⟩ := h
    have nd := scLawWalk.nd
    obtain ⟨g, FG, mG, kG⟩ := G
    have hu : (A.deeper (envOfC "_law_walk" (defScope sLawWalk) s.heap.objs.size f cdv)).units + 1 < cLine := by
      have := hr.units
      omega
    refine ⟨_, PSsn.nox (pssn_cons (psn (ps_par (i := 2) (j := 3) (by rfl) nd rfl rfl (by decide) rfl rfl (pa_cons pe_dnewK (pa_cons (pe_lst pa_nil) pa_nil)) (by rfl)))
      (pssn_cons (psn_for PassesOwn.never rfl (pi_list (pv 1)) (pg_tup (by rfl) (pgs_cons (pg_name (i := 4) nd rfl (Or.inl rfl)) (pgs_cons (pg_name (i := 5) nd rfl (Or.inl rfl)) pgs_nil)))
        (pssn_cons (psn_set (i := 6) nd rfl (Or.inl rfl) (pen_callN (E := E0) FG hr rfl mG kG (pan (pa_cons (pe_ix ix_list (pv 0) (pe_bm PySem.F.plainAttrs_list PySem.F.slot_list_index PySem.F.type_list_index mt_index (pe_lst (pa_cons pe_str (pa_cons pe_str (pa_cons pe_str pa_nil)))) (pa_cons (pv 4) pa_nil)) (fun _ _ => rfl)) (pa_cons (pv 5) pa_nil)))))
        (pssn_cons (psn (ps_set (i := 7) nd rfl (Or.inl rfl) (pe_dget2 hu (pv 2) (pv 6) pe_bl ⟨rfl, rfl, rfl, rfl⟩)))
        (pssn_cons (psn (ps_expr (pe_bm PySem.F.plainAttrs_list PySem.F.slot_list_append PySem.F.type_list_append mt_append (pv 3) (pa_cons (pe_ifExp (pt_cmpR op_ne (pv 4) pe_str (nomark _)) (pv 7) (pe_not (pv 7))) pa_nil))))
        (pssn_one (psn (ps_if (pt_cmpR op_ne (pv 4) pe_str (nomark _)) (pss_one (ps_dput hu (pv 2) (pv 6) (pe_cmpR op_eq (pv 4) pe_str (nomark _)) rfl)) pss_nil)))))))
      (pssn_one (psn (ps_ret (pv 3)))))), ?_⟩
    obtain ⟨fs, hfs⟩ : ∃ fs, dfs s1 s2 s3 = fs := ⟨_, rfl⟩
    rw [hfs] at q
    have rowOf : ∀ e : Dr, ∃ r, RowB K n H r (fs e) ∧ atI [V.ref r1, V.ref r2, V.ref r3, V.ref r4] ((noD e : Nat) : Int) = some (.ref r) := fun e => by
      subst hfs
      cases e
      · exact ⟨_, R1, rfl⟩
      · exact ⟨_, R2, rfl⟩
      · exact ⟨_, R3, rfl⟩
    have alen := al.len
    refine fun da hda => ⟨by show 0 ≤ sizeLine; decide, fun t ht => ⟨_, _, rfl, ?_⟩⟩
    have ta : t ≠ da := by rintro rfl; rw [upd_same] at ht; cases ht
    have kd : Ext H (L2.upd H da (.dK [])) := Ext.refl.new hda
    have kt : Ext H (L2.upd (L2.upd H da (.dK [])) t (.lst [])) := kd.new' ht
    have nt : H t = none := by rw [upd_ne ta] at ht; exact ht
    refine ⟨_, rfl, l, rfl, ⟨_, SqL.of (kt l _ hl)⟩, for_it (walk_list (xs := ps.map V.ref)) (fun i σ H' => ∃ u4 u5 u6 u7, σ = [some (.ref p), some (.ref l), some (.ref da), some (.ref t), u4, u5, u6, u7] ∧ DicAt H' da (endS fs noneS (ds.take i)) i ∧ H' t = some (.lst ((walkS fs noneS (ds.take i)).map V.bl)) ∧ Ext H H')
      ⟨_, _, _, _, rfl, ⟨[], by rw [upd_ne ta.symm]; exact upd_same, Nat.le_refl _, fun g => .inr ⟨rfl, rfl⟩⟩, upd_same, kt⟩ (fun i σ H' _ p => by
      obtain ⟨u4, u5, u6, u7, _, _, _, k⟩ := p
      exact SqL.of (k l _ hl)) ?_ ?_⟩
    · rintro i x σ H4 H5 hi ⟨u4, u5, u6, u7, rfl, hd5, ht5, k5⟩ ⟨rfl, hx⟩
      rw [List.getElem?_map] at hx
      obtain ⟨pp, hpp, rfl⟩ := Option.map_eq_some_iff.mp hx
      obtain ⟨dd, ed, hdd, gd⟩ := al.get hpp
      have hi' : i < ds.length := (List.getElem?_eq_some_iff.mp ed).1
      refine ⟨pp, _, rfl, sqT_keep hdd (fun o x => k5 pp o x), rfl, _, _, rfl, _, _, rfl, rfl, ?_⟩
      obtain ⟨r, Rr, er⟩ := rowOf dd.1
      refine ⟨_, rfl, by show 3 ≤ sizeLine; decide, fun lx hlx => ⟨.inl ⟨rfl, _, SqL.of upd_same⟩, _, rfl, lx, _, _, noD dd.1, .str dd.1.nm, rfl, rfl, SqL.of upd_same, rfl, by decide +kernel, ?_, ?_, ?_, ?_⟩⟩
      · cases dd.1 <;> rfl
      · cases dd.1 <;> decide +kernel
      · intro m z hm hz
        cases hdr : dd.1 with
        | put => rw [hdr] at hm; exact absurd hm (Nat.not_lt_zero _)
        | find =>
          rw [hdr] at hm
          obtain rfl : m = 0 := by have : m < 1 := hm; omega
          cases hz; decide +kernel
        | strike =>
          rw [hdr] at hm
          have hm' : m < 2 := hm
          obtain rfl | rfl : m = 0 ∨ m = 1 := by omega
          · cases hz; decide +kernel
          · cases hz; decide +kernel
      have k6 : Ext H5 (L2.upd H5 lx (.lst [.str "put", .str "find", .str "strike"])) := Ext.refl.new hlx
      refine ⟨p, _, _, _, rfl, rfl, SqL.of (k6 p _ (k5 p _ hp)), er, _, rfl, r, fs dd.1, dd.2, rfl, Rr.ext (k5.trans k6), gd, fun H7 k7 => ?_⟩
      have k67 := k6.trans k7
      obtain ⟨kvs, hkv, hkl, hkg⟩ := hd5
      have hkv7 := k67 da _ hkv
      have ht7 := k67 t _ ht5
      have k07 := k5.trans k67
      obtain ⟨g, hg⟩ : ∃ g, mks (fs dd.1) dd.2 = g := ⟨_, rfl⟩
      rw [hg]
      have wt := walk_take (fs := fs) ed
      have et := end_take (fs := fs) ed
      obtain ⟨T5, hT⟩ : ∃ T5, endS fs noneS (ds.take i) = T5 := ⟨_, rfl⟩
      rw [hT] at wt et hkg
      refine ⟨_, rfl, da, rfl, .inl ⟨_, .inl hkv7⟩, _, rfl, valV kvs (keyS g), DGet.k (k := keyS g) hkv7, ?_⟩
      rw [bool_get (hkg g)]
      have wl : ((walkS fs noneS (ds.take i)).map V.bl).length < sizeLine := by rw [List.length_map, walk_len, List.length_take, sizeLine_eq]; omega
      have dt : da ≠ t := ta.symm
      have app : ∀ b : Bool, (L2.upd H7 t (.lst ((walkS fs noneS (ds.take i)).map V.bl ++ [V.bl b]))) da = some (.dK kvs) := fun b => by rw [upd_ne dt]; exact hkv7
      have napp : ∀ (b : Bool) (o : HO), Ext H (L2.upd (L2.upd H7 t (.lst ((walkS fs noneS (ds.take i)).map V.bl ++ [V.bl b]))) da o) := fun b o c u e => by
        rw [upd_ne (ne_of_none e hda), upd_ne (ne_of_none e nt)]; exact k07 c u e
      have fin : ∀ (b v : Bool) (u4 u5 u6 u7 : Option V), b = ansS fs T5 dd → (∀ z, stepS fs T5 dd z = if z = g then v else T5 z) → ∃ u4' u5' u6' u7', ([some (.ref p), some (.ref l), some (.ref da), some (.ref t), u4, u5, u6, u7] : L2.St) = [some (.ref p), some (.ref l), some (.ref da), some (.ref t), u4', u5', u6', u7'] ∧
          DicAt (L2.upd (L2.upd H7 t (.lst ((walkS fs noneS (ds.take i)).map V.bl ++ [V.bl b]))) da (.dK (putK kvs (keyS g) (.bl v)))) da (endS fs noneS (ds.take (i + 1))) (i + 1) ∧
          (L2.upd (L2.upd H7 t (.lst ((walkS fs noneS (ds.take i)).map V.bl ++ [V.bl b]))) da (.dK (putK kvs (keyS g) (.bl v)))) t = some (.lst ((walkS fs noneS (ds.take (i + 1))).map V.bl)) ∧ Ext H (L2.upd (L2.upd H7 t (.lst ((walkS fs noneS (ds.take i)).map V.bl ++ [V.bl b]))) da (.dK (putK kvs (keyS g) (.bl v)))) := by
        intro b v u4 u5 u6 u7 eb ev
        refine ⟨_, _, _, _, rfl, ⟨_, upd_same, Nat.le_trans (length_putK _ _ _) (by omega), fun z => ?_⟩, ?_, napp b _⟩
        · rw [valV_put, et, ev z]
          by_cases hz : z = g
          · rw [if_pos (keyS_inj.mpr hz), if_pos hz]; exact .inl rfl
          · rw [if_neg (fun e => hz (keyS_inj.mp e)), if_neg hz]; exact hkg z
        · rw [upd_ne ta, upd_same, wt, List.map_append, eb]; rfl
      refine ⟨_, rfl, .inl ⟨rfl, _, SqL.of ht7⟩, ?_⟩
      obtain ⟨a1, a2⟩ := dd
      cases a1
      · refine ⟨_, rfl, rfl, _, rfl, ?_⟩
        refine iteF ⟨_, rfl, _, rfl, t, _, _, rfl, rfl, ht7, wl, ?_⟩
        refine ⟨_, rfl, rfl, _, rfl, iteT ?_⟩
        refine ⟨_, rfl, rfl, _, rfl, _, rfl, da, _, rfl, DPut.k (k := keyS g) (app _) (by rw [sizeLine_eq]; omega), ?_⟩
        refine fin _ true _ _ _ _ (by subst hg; rfl) fun z => ?_
        subst hg
        show (T5 z || decide (z = mks (fs .put) a2)) = _
        by_cases hz : z = mks (fs .put) a2
        · rw [decide_eq_true hz, Bool.or_true, if_pos hz]
        · rw [decide_eq_false hz, Bool.or_false, if_neg hz]
      · refine ⟨_, rfl, rfl, _, rfl, ?_⟩
        refine iteT ⟨_, rfl, t, _, _, rfl, rfl, ht7, wl, ?_⟩
        refine ⟨_, rfl, rfl, _, rfl, iteF ?_⟩
        refine ⟨_, _, _, _, rfl, ⟨kvs, app _, by omega, fun z => ?_⟩, ?_, fun c u e => ?_⟩
        · rw [et]; exact hkg z
        · rw [upd_same, wt, List.map_append]; subst hg; rfl
        · rw [upd_ne (ne_of_none e nt)]; exact k07 c u e
      · refine ⟨_, rfl, rfl, _, rfl, ?_⟩
        refine iteT ⟨_, rfl, t, _, _, rfl, rfl, ht7, wl, ?_⟩
        refine ⟨_, rfl, rfl, _, rfl, iteT ?_⟩
        refine ⟨_, rfl, rfl, _, rfl, _, rfl, da, _, rfl, DPut.k (k := keyS g) (app _) (by rw [sizeLine_eq]; omega), ?_⟩
        refine fin _ false _ _ _ _ (by subst hg; rfl) fun z => ?_
        subst hg
        show (decide (z ≠ mks (fs .strike) a2) && T5 z) = _
        by_cases hz : z = mks (fs .strike) a2
        · rw [decide_eq_false (fun h => h hz), Bool.false_and, if_pos hz]
        · rw [decide_eq_true hz, Bool.true_and, if_neg hz]
    · rintro σ H5 ⟨u4, u5, u6, u7, rfl, hd5, ht5, k5⟩
      have e : ds.take (ps.map V.ref).length = ds := by rw [List.length_map, alen, List.take_length]
      rw [e] at ht5
      exact ⟨_, rfl, q t H5 nt ht5 k5⟩
end
end Pd

set_option maxHeartbeats 4000000
namespace Pd
open PySem PySem.Spec PyProof.Rows L2
/-! ### or in a test, and as a value, n tokens out -/
structure PWn (n : Nat) (X : Cx) (e : Expr) (t : TT) : Prop where
  run : ∀ (whole : Sem Value) (pins : List (Addr × Obj)) (s : Shared) (σ : L2.St) (H : Hp) (Q : Bool → Hp → Prop), n ≤ s.toks → Inv X pins σ H s → t σ H Q → wpAny (model X.prog X.w) X.A (isTrue e X.env whole) (TP X pins σ Q) X.xe s
section
variable {X : Cx} {n : Nat} {a b : Expr} {more : List Expr} {t u : TT} {pos : Pos}
theorem PWn.ptn {e : Expr} (h : PWn n X e t) : PTn n X e t := ⟨fun pins s σ H Q l I q => h.run _ pins s σ H Q l I q⟩
theorem pwn_or1 (ha : PTn n X a t) : PWn n X (.BoolOp .Or [a] pos) t := by
  constructor
  intro wh pins s σ H Q l I h
  refine isTrue_or (thn (ha.run pins s σ H Q l I h) ?_)
  rintro (_ | _) s1 q
  · exact isTrue_or_nil q
  · exact q
theorem pwn_or (ha : PTn n X a t) (hb : PWn n X (.BoolOp .Or (b :: more) pos) u) : PWn n X (.BoolOp .Or (a :: b :: more) pos) (tOr t u) := by
  constructor
  intro wh pins s σ H Q l I h
  refine isTrue_or (thk l (ha.run pins s σ H _ l I h) ?_)
  rintro (_ | _) s1 l1 ⟨H1, I1, q⟩
  · exact hb.run wh pins s1 σ H1 Q l1 I1 q
  · exact ⟨H1, I1, q⟩
theorem pen_one {op} {e : Expr} {te : TE} (h : PEn n X e te) : PEn n X (.BoolOp op [e] pos) te := ⟨fun pins s σ H Q l I q => BoolOp_one (h.run pins s σ H Q l I q)⟩
theorem pen_and {ta tb : TE} (ha : PEn n X a ta) (hb : PEn n X (.BoolOp .And (b :: more) pos) tb) : PEn n X (.BoolOp .And (a :: b :: more) pos) (tAndV ta tb) := by
  constructor
  intro pins s σ H Q l I h
  refine BoolOp_and (thk l (ha.run pins s σ H _ l I h) ?_)
  rintro v s1 l1 ⟨x, H1, I1, r1, c, rfl, q⟩
  cases r1
  refine wpAny_truthy_bool ?_
  cases c
  · exact ⟨.bl false, H1, I1, rfl, q⟩
  · exact hb.run pins s1 σ H1 Q l1 I1 q
end
/-- what is known behind a statement is said, n tokens out -/
theorem pssn_cut {n : Nat} {X : Cx} {st : Stmt} {sts : List Stmt} {t u : TS} (h1 : PSn n X st t) (h2 : PSsn n X sts u) : PSsn n X (st :: sts) (C8.tCut t u) := by
  constructor
  intro pins s σ H D l I h
  obtain ⟨Mid, q1, q2⟩ := h
  refine wpAny_execs_cons (thk l (h1.run pins s σ H { D with nx := Mid } l I q1) ?_)
  rintro f s1 l1 q
  cases f with
  | next =>
    obtain ⟨ρ, G, J, m⟩ := q
    exact h2.run pins s1 ρ G D l1 J (q2 ρ G m)
  | ret v => exact q
  | brk => exact q
  | cont => exact q
end Pd

set_option maxHeartbeats 4000000
namespace Pd
open PySem PySem.Spec PyProof.Rows L2 SX
/-- a plain def called by its name, its arguments with n tokens out -/
theorem pen_cl {n : Nat} {X : Cx} {k j : Nat} {x : Str} {sp : Sp} {e : Expr} {es : List Expr} {t : TA} {p pos : Pos} (c : Cl X.prog X.w X.K X.mg X.base k x sp) (hr : Room j X.A) (hk : k ≤ j) (hg : Gl X x) (ha : PAn n X (e :: es) t)
    (hdb : (x == ("__debug__" : Str)) = false := by decide) (he : starEach (e :: es) X.env = (false, eval e X.env) :: starEach es X.env := by rfl) (hpl : (backTo pos (starEach es X.env)).any (·.1) = false := by rfl) :
    PEn n X (.Call (.Name x p) (e :: es) [] pos) (tCall sp [] E0 t) := by
  obtain ⟨f, fd, ps, F, hm, kp, b⟩ := c.ex
  exact pen_call (E := E0) (by have z := FnOk.raw F b .nil; simp only [List.append_nil] at z; exact z) (hr.mono hk) hg hm kp pass0 ha hdb he hpl
/-! ### deeds as data -/
def deedData (d : Deed) : PyData := .tuple [.str d.1.nm, .str (S d.2)]
theorem dal_dp {K : PySem.W.Frag} {H : Hp} : ∀ {ps : List Addr} {ds : List Deed}, DAl K H ps ds → DpAll K H (ps.map V.ref) (ds.map deedData)
  | _, _, .nil => .nil
  | _, _, .cons h _ r => .cons (.tup h (.cons (.str _) (.cons (.str _) .nil))) (dal_dp r)
theorem deeds_shape {ds : List Deed} (h : ∀ d ∈ ds, Good d.2) : SeqAt.shaped (.list (ds.map deedData)) = true := by
  have w : ∀ d : Dr, PyData.strOk d.nm = true := fun d => by cases d <;> decide +kernel
  have key : PyData.canLayAll0 (ds.map deedData) = true ∧ PyData.depthAll (ds.map deedData) ≤ 1 := by
    induction ds with
    | nil => exact ⟨rfl, Nat.zero_le _⟩
    | cons d ds ih =>
      obtain ⟨h1, h2⟩ := ih fun x hx => h x (List.mem_cons_of_mem _ hx)
      have hd := strOk_CH (l := d.2) (h d (List.mem_cons_self ..)).1
      have e1 : (deedData d).canLay0 = true := by simp [deedData, PyData.canLay0, PyData.canLayAll0, w, hd]
      have e2 : (deedData d).depth = 1 := by simp [deedData, PyData.depth, PyData.depthAll]
      refine ⟨?_, ?_⟩
      · rw [List.map_cons]; simp only [PyData.canLayAll0, e1, h1, Bool.and_self]
      · rw [List.map_cons]; simp only [PyData.depthAll, e2]; omega
  unfold SeqAt.shaped
  simp only [PyData.canLay0, PyData.depth, key.1, Bool.true_and]
  exact decide_eq_true (by have := key.2; omega)
theorem DAl.good {K : PySem.W.Frag} {H : Hp} : ∀ {ps : List Addr} {ds : List Deed}, DAl K H ps ds → ∀ d ∈ ds, Good d.2
  | _, _, .nil, _, h => nomatch h
  | _, _, .cons _ g r, d, h => by
    rcases List.mem_cons.mp h with rfl | h
    · exact g
    · exact r.good d h
theorem deeds_eqv {ds : List Deed} (h : ∀ d ∈ ds, Good d.2) : PyData.eqv (.list (ds.map deedData)) (.list (ds.map deedData)) = true := SeqAt.eqv_refl _ (SeqAt.canLay_of_shaped (deeds_shape h))
end Pd

set_option maxHeartbeats 1000000
namespace Pd
open PySem PySem.Spec PyProof.Rows L2 RT
section
variable {prog : Program} {w : World} {A : Around} {E : Value → Shared → Prop} {s : Shared} {R : Result → Shared → Prop}
theorem extend_rev {it l S : Addr} {items : Array Value} (res : Value) (c₀ : Nat) (hh : A.handled = none) (hit : s.heap.IsRevIter it l ((items.size : Int) - 1)) (hl : s.heap.IsList l items) (hne : l ≠ it) (hSi : S ≠ it) (hSl : S ≠ l) (hn : items.size ≤ sizeLine)
    (hS : s.heap.get? S = some { cls := .type "list", data := .seq #[] c₀ })
    (hR : ∀ (h' : Heap) (tk : Nat) (acc' : Array Value) (c' : Nat), (∀ b o, b ≠ it → b ≠ S → s.heap.get? b = some o → h'.get? b = some o) → h'.get? S = some { cls := .type "list", dict := none, data := .seq acc' c', slots := #[] } →
      ItemsOf (fun i v => items[items.size - 1 - i]? = some v) acc' items.size → R (.ok (.ret res)) { s with heap := h', toks := tk }) :
    wpAny (model prog w) A.in1 (Builtin.List.listExtendWith (.ref S) (.ref it) res)
      (fun fin s' => match fin with | .done f => R (.ok f) s' | .again c' => c'.quiet = true ∧ codeAny (model prog w) A c' R s') (fun e s' => R (.error e) s') s := by
  have hh1 : A.in1.handled = none := hh
  have W := (Walks.listRev (prog := prog) (w := w) (A := A.in1) hh1 it l hne items).toS
  have hSf : S ∉ [it, l] := by simp only [List.mem_cons, List.not_mem_nil, or_false, not_or]; exact ⟨hSi, hSl⟩
  have hT : s.TypeIs (.ref it) "list_reverseiterator" := hit.typeIs
  have h1 : Builtin.List.listSameRef (.ref S) (.ref it) = false := by simp [Builtin.List.listSameRef, hSi]
  unfold Builtin.List.listExtendWith
  refine wpAny_bind (wpAny_typeOf hT ?_)
  rw [if_neg (by rw [h1]; decide)]
  refine wpAny_bind (wpAny_pyIter_revIter hit ?_)
  refine wpAny_bind (wpAny_holding ?_)
  unfold Builtin.List.listLengthHint
  refine wpAny_bind (wpAny_specialOf hT nolen_lri ?_)
  show wpAny _ A.in1 (specialOf (Value.ref it) (Str.ofString "__length_hint__") >>= _) _ _ _
  refine wpAny_bind (wpAny_specialOf hT hint_lri ?_)
  generalize hid : ("list_reverseiterator.__length_hint__" : String) = id0
  wp_delta
  rw [show splitId id0 = some ("list_reverseiterator", "__length_hint__") from by subst hid; decide +kernel]
  subst hid
  refine wpAny_bind (wpAny_isInstance (b := true) hT (by rw [isSubtype_type]; kernel_rfl) ?_)
  refine wpAny_pure ?_
  rw [if_neg (by decide)]
  have e0 : ((items.size : Nat) : Int) - 1 - ((0 : Nat) : Int) = (items.size : Int) - 1 := by omega
  refine wpAny_pure ⟨plainId_quiet F.plain_extend_loop _, codeAny_extend_loopS W hn _ hSf _ items.size 0 _ _ _ rfl (Nat.zero_le _) ⟨Nat.zero_le _, by rw [e0]; exact hit, hl⟩ hS (ItemsOf.nil _) fun s' acc' c' hm hS' hacc => ?_⟩
  rw [Moved.eq_with hm]
  exact hR s'.heap s'.toks acc' c' (fun b o hb hbS e => hm.heap b o (fun hmem => (List.mem_cons.mp hmem).elim hbS fun hmem => hb (List.mem_singleton.mp hmem)) e) hS' hacc
theorem list_init_rev {it l S : Addr} {items : Array Value} (hh : A.handled = none) (hit : s.heap.IsRevIter it l ((items.size : Int) - 1)) (hl : s.heap.IsList l items) (hne : l ≠ it) (hSi : S ≠ it) (hSl : S ≠ l) (hn : items.size ≤ sizeLine)
    (hS : s.heap.get? S = some { cls := .type "list", data := .seq #[] })
    (hR : ∀ (h' : Heap) (tk : Nat) (acc' : Array Value) (c' : Nat), (∀ b o, b ≠ it → b ≠ S → s.heap.get? b = some o → h'.get? b = some o) → h'.get? S = some { cls := .type "list", dict := none, data := .seq acc' c', slots := #[] } →
      ItemsOf (fun i v => items[items.size - 1 - i]? = some v) acc' items.size → R (.ok (.ret .none)) { s with heap := h', toks := tk }) :
    wpAny (model prog w) A.in1 (Builtin.«list.__init__» ⟨[.ref S, .ref it], []⟩)
      (fun fin s' => match fin with | .done f => R (.ok f) s' | .again c' => c'.quiet = true ∧ codeAny (model prog w) A c' R s') (fun e s' => R (.error e) s') s := by
  show wpAny _ A.in1 (do let old ← Builtin.List.listItems (.ref S); Builtin.List.listUpdate (.ref S) (fun _ => #[]); letGo old.toList.reverse; Builtin.List.listExtendWith (.ref S) (.ref it) .none) _ _ s
  refine wpAny_bind ?_
  unfold Builtin.List.listItems
  refine wpAny_bind (wpAny_seqItems hS rfl (wpAny_pure ?_))
  show wpAny _ A.in1 (updateSeq S (fun _ => #[]) >>= fun _ => letGo (#[] : Array Value).toList.reverse >>= fun _ => Builtin.List.listExtendWith (.ref S) (.ref it) .none) _ _ s
  refine wpAny_bind (wpAny_updateSeq hS rfl ?_)
  have hS₂ := Heap.get?_update_self (Obj.mapSeq (fun _ => (#[] : Array Value))) hS rfl
  have oth : ∀ b o, b ≠ S → s.heap.get? b = some o → (s.heap.update S (Obj.mapSeq (fun _ => (#[] : Array Value)))).get? b = some o :=
    fun b o hb e => (Heap.get?_update_other _ _ (Ne.symm hb)).trans e
  refine wpAny_bind (wpAny_letGo ?_)
  exact extend_rev (s := { s with heap := s.heap.update S (Obj.mapSeq (fun _ => (#[] : Array Value))) }) .none _ hh (hit.at fun o e => oth _ o (Ne.symm hSi) e) (hl.at fun o e => oth _ o (Ne.symm hSl) e) hne hSi hSl hn hS₂
    fun h' tk acc' c' hk hS' hacc => hR h' tk acc' c' (fun b o hb hbS e => hk b o hb hbS (oth b o hbS e)) hS' hacc
theorem call_list_rev {it l : Addr} {items : Array Value} {Q : Value → Shared → Prop} (hh : A.handled = none) (hit : s.heap.IsRevIter it l ((items.size : Int) - 1)) (hl : s.heap.IsList l items) (hne : l ≠ it) (hn : items.size ≤ sizeLine)
    (hQ : ∀ (h' : Heap) (tk : Nat) (acc' : Array Value) (c' : Nat), (∀ b o, b ≠ it → s.heap.get? b = some o → h'.get? b = some o) → h'.get? s.heap.objs.size = some { cls := .type "list", dict := none, data := .seq acc' c', slots := #[] } →
      ItemsOf (fun i v => items[items.size - 1 - i]? = some v) acc' items.size → Q (.ref s.heap.objs.size) { s with heap := h', toks := tk }) :
    wpAny (model prog w) A (call (.type "list") [.ref it]) Q E s := by
  obtain ⟨oi, hoi, _⟩ := id hit
  obtain ⟨ol, hol, _⟩ := id hl
  have hSi : s.heap.objs.size ≠ it := Nat.ne_of_gt (Heap.lt_size hoi)
  have hSl : s.heap.objs.size ≠ l := Nat.ne_of_gt (Heap.lt_size hol)
  refine callType_codes (Q₁ := fun obj s₁ => obj = .ref s.heap.objs.size ∧ s₁ = { s with heap := s.heap.push { cls := .type "list", data := .seq #[] } }) F.called_list (F.typeCall_list_1 _) F.entry_list_init
    (code_list_new _ ⟨rfl, rfl⟩) fun obj s₁ h₁ => ?_
  obtain ⟨rfl, rfl⟩ := h₁
  have hS : (s.heap.push { cls := .type "list", data := .seq #[] }).get? s.heap.objs.size = some { cls := .type "list", data := .seq #[] } := Heap.get?_push_size _ rfl
  refine ⟨⟨_, hS, rfl⟩, F.args_list_init_2 _ _, list_init_rev (s := { s with heap := s.heap.push { cls := .type "list", data := .seq #[] } }) hh (hit.at fun o e => Heap.get?_push_of_some _ e) (hl.push _) hne hSi hSl hn hS fun h' tk acc' c' hk hS' hacc => ?_⟩
  exact ⟨rfl, hQ h' tk acc' c' (fun b o hb e => hk b o hb (Nat.ne_of_lt (Heap.lt_size e)) (Heap.get?_push_of_some _ e)) hS' hacc⟩
end
/-- list(reversed(x)), x a list: a new list -/
def tListRev (K : PySem.W.Frag) (te : TE) : TE := fun σ H Q => te σ H fun v H1 => ∃ (a : Addr) (xs : List V), v = .ref a ∧ SqL K H1 a xs ∧ ∀ q, H1 q = none → Q (.ref q) (upd H1 q (.lst xs.reverse))
section
variable {X : Cx}
theorem pe_listRev {e : Expr} {te : TE} {p p2 pos pos2 : Pos} (hc : X.calm = true) (hg : Gl X "list") (hm : X.mg "list" = none) (hg2 : Gl X "reversed") (hm2 : X.mg "reversed" = none) (he : PE X e te)
    (hs : starEach [e] X.env = (false, eval e X.env) :: starEach [] X.env := by rfl)
    (hs2 : starEach [.Call (.Name "reversed" p2) [e] [] pos2] X.env = (false, eval (.Call (.Name "reversed" p2) [e] [] pos2) X.env) :: starEach [] X.env := by rfl) :
    PE X (.Call (.Name "list" p) [.Call (.Name "reversed" p2) [e] [] pos2] [] pos) (tListRev X.K te) := by
  refine ⟨fun pins s σ H Q I h => ?_⟩
  refine Call_ (ld_blt I hg hm (show bootBuiltins "list" = some (.type "list") by decide +kernel) (PyProof.Rows.callWith_type1 (args_cons (Call_ (ld_blt I hg2 hm2 PyProof.Rows.boot_reversed (PyProof.Rows.callWith_type1 (args_cons (thn (he.run pins s σ H _ I h) fun u s1 ⟨v, H1, I1, r1, q1⟩ => args_nil ?_) hs) hs rfl))) hs2) hs2 rfl))
  obtain ⟨a, xs, ev, hq, q⟩ := q1
  subst ev
  obtain rfl : u = Value.ref a := r1
  obtain ⟨its, rv, p', hz⟩ := I1.list hq
  refine call_reversed_list p'.isList (args_nil ?_)
  have hl := p'.isList
  obtain ⟨ol, hol, _⟩ := id hl
  have hne : a ≠ s1.heap.objs.size := Nat.ne_of_lt (Heap.lt_size hol)
  have hn : its.toArray.size ≤ sizeLine := by rw [List.size_toArray, ← rv.length]; exact hz
  refine call_list_rev (s := { s1 with heap := s1.heap.push (revObj a ((its.toArray.size : Int) - 1)) }) (I1.ok.hd hc) ⟨_, Heap.get?_push_size _ rfl, rfl, rfl⟩ (hl.push _) hne hn fun h' tk acc c hk hS hi => ?_
  have le : s1.heap.objs.size ≤ (s1.heap.push (revObj a ((its.toArray.size : Int) - 1))).objs.size := by simp [Heap.push]
  have k0 : ∀ b o, s1.heap.get? b = some o → h'.get? b = some o := fun b o e => hk b o (Nat.ne_of_lt (Heap.lt_size e)) (Heap.get?_push_of_some _ e)
  refine ⟨.ref _, upd H1 _ (.lst xs.reverse), I1.laid (t' := tk) k0 le (show ObjOk X.prog X.w _ _ _ (.lst xs.reverse) from ⟨by rw [List.length_reverse]; exact hz, acc.toList, c, vals_rev rv hi, ?_⟩), rfl, q _ (I1.hok.fresh le)⟩
  rw [Array.toArray_toList]
  exact hS
end
section
variable {X : Cx} {n : Nat} {a b : Expr} {ta tb : TE} {pos : Pos}
theorem ptn_cmpR {op : CmpOp} {r : R2} (ho : OpR X (compareOp op) r) (ha : PEn n X a ta) (hb : PEn n X b tb) (hm : behindInMarks op b = false) : PTn n X (.Compare a [op] [b] pos) (tTest (tOp r ta tb)) := by
  constructor
  intro pins s σ H Q l I h
  refine wpAny_isTrue_Compare1 (thk l (ha.run pins s σ H _ l I h) fun v s1 l1 ⟨x, H1, I1, r1, q1⟩ => thn (hb.run pins s1 σ H1 _ l1 I1 q1) fun u s2 ⟨y, H2, I2, r2, q2⟩ => thn (ho pins s2 σ H2 x y v u _ I2 r1 r2 q2) ?_) hm
  rintro c s3 ⟨z, H3, I3, r3, k, rfl, q3⟩
  cases r3
  exact wpAny_truthy_bool ⟨H3, I3, q3⟩
end
end Pd

set_option maxHeartbeats 4000000
namespace Pd
open PySem PySem.Spec PyProof.Rows L2 SX
/-! ### lists of truths as data -/
def blData (bs : List Bool) : PyData := .list (bs.map .bool)
theorem bls_all {K : PySem.W.Frag} {H : Hp} : ∀ bs : List Bool, DpAll K H (bs.map V.bl) (bs.map .bool)
  | [] => .nil
  | b :: bs => .cons (.bl b) (bls_all bs)
theorem bls_dp {K : PySem.W.Frag} {H : Hp} {a : Addr} {bs : List Bool} (h : H a = some (.lst (bs.map V.bl))) : Dp K H (.ref a) (blData bs) := .lst (SqL.of h) (bls_all bs)
theorem bls_shape (bs : List Bool) : SeqAt.shaped (blData bs) = true := by
  have key : PyData.canLayAll0 (bs.map .bool) = true ∧ PyData.depthAll (bs.map .bool) = 0 := by
    induction bs with
    | nil => exact ⟨rfl, rfl⟩
    | cons b bs ih => simp [PyData.canLayAll0, PyData.canLay0, PyData.depthAll, PyData.depth, ih]
  unfold SeqAt.shaped blData
  simp [PyData.canLay0, PyData.depth, key.1, key.2]
theorem bls_eqv (bs : List Bool) : PyData.eqv (blData bs) (blData bs) = true := SeqAt.eqv_refl _ (SeqAt.canLay_of_shaped (bls_shape bs))
/-! ### whether told answers are the due ones -/
def spTruths2 : Sp := fun vs H Q _ => ∃ (t d : Addr) (bs : List Bool), vs = [.ref t, .ref d] ∧ H t = some (.lst (bs.map V.bl)) ∧ H d = some (.lst (bs.map V.bl)) ∧ bs.length ≤ 1000 ∧ ∀ H', Ext H H' → Q (.bl true) H'
theorem call_isi' {X : Cx} {K : PySem.W.Frag} (h : X.K = K) : CallR X (.builtin "isinstance") (rIsi K) := by subst h; exact call_isi
section
variable {P : Program} {w : World} {K : PySem.W.Frag} {mg : Str → Option Value} {base : Heap}
theorem ok_truths2 {f : Addr} {fd : FuncData} (F : Fun K "_law_truths" "_law_truths" sLawTruths f fd) (T : Nms mg) (ml : mg "list" = none) : FnOk P w K mg base CX0 1 f fd ["told", "due"] spTruths2 := by
  refine F.ok scLawTruths (fun vs H Q E h => ?_) (fun cdv A outer s H vs Q E hr h => ?_)
  · obtain ⟨t, d, bs, rfl, _⟩ := h
    rfl
  · obtain ⟨t, d, bs, rfl, ht, hd, hl, q⟩ := h
    have nd := scLawTruths.nd
    refine ⟨_, pss_cons (ps_if (PW.pt (pw_or (pt_not (pt_val (pe_callB call_isi (by rfl) T.isi (by decide +kernel) (pa_cons (pv 0) (pa_cons (pe_bltn (v := .ty "list") (by rfl) ml (by decide +kernel) rfl) pa_nil)))))
        (pw_or1 (pt_cmpR op_ne (pe_callB call_len_seq (by rfl) T.len PySem.boot_len (pa_cons (pv 0) pa_nil)) (pe_callB call_len_seq (by rfl) T.len PySem.boot_len (pa_cons (pv 1) pa_nil)) (nomark _))))) pss_never pss_nil)
      (pss_one (ps_ret (pe_callB (cr_all rfl) (by rfl) T.all (by decide +kernel) (pa_cons (pe_lc (own := [("k", 2)]) (g := gName 2) (tt := tYes) rfl nd (pi_range1 rfl T.range (pa_cons (pe_callB call_len_seq (by rfl) T.len PySem.boot_len (pa_cons (pv 1) pa_nil)) pa_nil)) (blkOk_by (N := ["told", "due", "k"]) (sc := defScope sLawTruths) (by decide +kernel)) (fun _ _ _ _ _ => pg_name (i := 2) nd rfl (Or.inl rfl)) (fun _ _ _ _ _ => pts_nil)
          (fun _ _ _ _ _ => pe_and (pe_callB (call_isi' (K := K) rfl) (by rfl) T.isi (by decide +kernel) (pa_cons (pe_ix (ix_listK (K := K) rfl) (pv 0) (pv 2) (fun _ _ => rfl)) (pa_cons (pe_bltn (v := .ty "bool") (by rfl) T.bool (by decide +kernel) rfl) pa_nil)))
            (pe_one (pe_cmpR op_eq (pe_ix (ix_listK (K := K) rfl) (pv 0) (pv 2) (fun _ _ => rfl)) (pe_ix (ix_listK (K := K) rfl) (pv 1) (pv 2) (fun _ _ => rfl)) (nomark _))))) pa_nil)))), ?_⟩
    refine ⟨_, rfl, _, _, _, _, true, rfl, .ty "list", .base (.lst ht), kit_ty (by decide +kernel), true, rfl, iteF ?_⟩
    refine ⟨_, rfl, t, _, rfl, .inl (SqL.of ht), _, rfl, d, _, rfl, .inl (SqL.of hd), rfl, _, rfl, ?_⟩
    rw [decide_eq_true rfl]
    refine iteF ?_
    refine ⟨_, rfl, d, _, rfl, .inl (SqL.of hd), _, rfl, by rw [List.length_map]; omega, by rw [List.length_map]; omega, fun D hD => ?_⟩
    rw [show (((bs.map V.bl).length : Nat) : Int).toNat = bs.length by rw [List.length_map]; omega]
    refine lc_it (walk_range (lo := 0) (n := bs.length)) (fun i H' => H' D = some (.lst ((List.replicate i true).map V.bl)) ∧ Ext H H') ⟨upd_same, Ext.refl.new hD⟩ (fun _ _ _ _ => trivial) ?_ ?_
    · rintro i x H2 H3 hi ⟨h2, k2⟩ ⟨rfl, rfl⟩
      obtain ⟨c, hc⟩ : ∃ c, bs[i]? = some c := ⟨_, List.getElem?_eq_getElem hi⟩
      have ac : atI (bs.map V.bl) ((i : Nat) : Int) = some (.bl c) := atI_nat (by rw [List.getElem?_map, hc]; rfl)
      show gName 2 (V.int (0 + (i : Nat))) _ _ _
      rw [show (0 : Int) + (i : Nat) = (i : Nat) by omega]
      refine ⟨rfl, _, rfl, _, rfl, t, _, _, _, rfl, rfl, SqL.of (k2 t _ ht), ac, _, _, _, _, true, rfl, .ty "bool", .base (.bl _), kit_ty (by decide +kernel), true, rfl, iteT ?_⟩
      refine ⟨_, rfl, _, rfl, t, _, _, _, rfl, rfl, SqL.of (k2 t _ ht), ac, _, rfl, _, rfl, d, _, _, _, rfl, rfl, SqL.of (k2 d _ hd), ac, rfl, _, h2, ?_, ?_, k2.new hD⟩
      · rw [List.length_map, List.length_replicate, sizeLine_eq]; omega
      · rw [upd_same, List.replicate_succ', List.map_append, decide_eq_true rfl]; rfl
    · rintro H2 ⟨h2, k2⟩
      refine ⟨D, _, rfl, SqL.of h2, ?_⟩
      have e : (List.replicate bs.length true).all id = true := by rw [List.all_replicate]; simp
      rw [e]; exact q H2 k2
end
section
variable {K : PySem.W.Frag} {H : Hp}
theorem DAl.reverse : ∀ {ps : List Addr} {ds : List Deed}, DAl K H ps ds → DAl K H ps.reverse ds.reverse
  | _, _, .nil => .nil
  | _, _, .cons h g r => by rw [List.reverse_cons, List.reverse_cons]; exact r.reverse.snoc h g
end
theorem four_many {r : Int} (h0 : 0 ≤ r) (h1 : r < 4) : ∃ m : Int, atI [V.int 30, V.int 30, V.int 30, V.int 300] r = some (.int m) ∧ 0 ≤ m ∧ m ≤ 300 := by
  obtain rfl | rfl | rfl | rfl : r = 0 ∨ r = 1 ∨ r = 2 ∨ r = 3 := by omega
  · exact ⟨30, rfl, by decide, by decide⟩
  · exact ⟨30, rfl, by decide, by decide⟩
  · exact ⟨30, rfl, by decide, by decide⟩
  · exact ⟨300, rfl, by decide, by decide⟩
def spLaw (K : PySem.W.Frag) : Sp := fun vs H Q _ => ∃ (a : Addr) (ns : List Int), vs = [.ref a] ∧ SqL K H a (ns.map V.int) ∧ ns.length ≤ 63 ∧ ∀ H', Q (.bl true) H'
/-- a def of two arguments called by keywords alone, in exchanged order -/
structure ClX (P : Program) (w : World) (K : PySem.W.Frag) (mg : Str → Option Value) (base : Heap) (k : Nat) (x : Str) (ks : List Str) (sp : Sp) : Prop where
  ex : ∃ (f : Addr) (fd : FuncData) (ps : List Str), FnOk P w K mg base CX0 k f fd ps sp ∧ mg x = some (.ref f) ∧ PySem.W.keepIn K (.ref f) = true ∧ KBn K fd ps 0 ks (fun us ws => us ++ ws.reverse) (fun vs zs => vs ++ zs.reverse)
theorem pe_clX {X : Cx} {k j : Nat} {x : Str} {ks : List Str} {sp : Sp} {p pos : Pos} {kws : List Keyword} {tk : TA} (c : ClX X.prog X.w X.K X.mg X.base k x ks sp) (hr : Room j X.A) (hk : k ≤ j) (hg : Gl X x) (hkw : PK X kws tk)
    (hall : (backToKw pos (keywordEach kws X.env)).all (·.1.isSome) = true := by rfl) (hks : (backToKw pos (keywordEach kws X.env)).filterMap (·.1) = ks := by rfl) (hdb : (x == ("__debug__" : Str)) = false := by decide)
    (hpl : ((backTo pos (starEach [] X.env)).any (·.1) || (backToKw pos (keywordEach kws X.env)).any (·.1.isNone)) = false := by rfl) :
    PE X (.Call (.Name x p) [] kws pos) (tCallN 0 ks.length sp (fun vs zs => vs ++ zs.reverse) E0 tNil tk) := by
  obtain ⟨f, fd, ps, F, hm, kp, b⟩ := c.ex
  exact pe_callK0 F (hr.mono hk) hg hm kp b pass0 hkw hall hks hdb hpl
end Pd

set_option maxHeartbeats 4000000
namespace Pd
open PySem PySem.Spec PyProof.Rows L2
/-! ### len(set(xs)), xs a tuple of texts -/
def metS (xs : List Str) : Nat → List Str
  | 0 => []
  | i + 1 => if (metS xs i).any (· == xs.getD i Str.empty) then metS xs i else metS xs i ++ [xs.getD i Str.empty]
theorem metS_len (xs : List Str) : ∀ i, (metS xs i).length ≤ i
  | 0 => Nat.le_refl _
  | i + 1 => by
    have := metS_len xs i
    show (if _ then _ else _ : List Str).length ≤ _
    split
    · omega
    · rw [List.length_append]; show _ + 1 ≤ _; omega
theorem metS_any (xs : List Str) (i : Nat) (k : Str) : (metS xs (i + 1)).any (· == k) = ((metS xs i).any (· == k) || decide (k = xs.getD i Str.empty)) := by
  show (if _ then _ else _ : List Str).any _ = _
  generalize xs.getD i Str.empty = v
  split
  next h =>
    by_cases e : k = v
    · subst e; rw [h]; simp
    · simp [e]
  next h =>
    rw [List.any_append]
    by_cases e : k = v
    · subst e; simp
    · have z : (v == k) = false := beq_eq_false_iff_ne.mpr fun q => e q.symm
      simp [z, e]
theorem metS_step (xs : List Str) (i : Nat) : (metS xs (i + 1)).length = if (metS xs i).any (· == xs.getD i Str.empty) then (metS xs i).length else (metS xs i).length + 1 := by
  show (if _ then _ else _ : List Str).length = _
  split
  · rfl
  · rw [List.length_append]; rfl
theorem metS_mem (xs : List Str) (k : Str) : ∀ i, i ≤ xs.length → ((metS xs i).any (· == k) = true ↔ k ∈ xs.take i)
  | 0, _ => by simp [metS]
  | i + 1, h => by
    have hi : i < xs.length := h
    rw [metS_any, Bool.or_eq_true, metS_mem xs k i (Nat.le_of_lt hi), decide_eq_true_iff, List.take_add_one, List.getElem?_eq_getElem hi, List.mem_append]
    have e : xs.getD i Str.empty = xs[i] := by rw [List.getD_eq_getElem?_getD, List.getElem?_eq_getElem hi]; rfl
    rw [e]; simp
/-- as many are met as there are just where none stands twice -/
theorem metS_full (xs : List Str) : ∀ i, i ≤ xs.length → ((metS xs i).length = i ↔ (xs.take i).Nodup)
  | 0, _ => by simp [metS]
  | i + 1, h => by
    have hi : i < xs.length := h
    have e : xs.getD i Str.empty = xs[i] := by rw [List.getD_eq_getElem?_getD, List.getElem?_eq_getElem hi]; rfl
    have ih := metS_full xs i (Nat.le_of_lt hi)
    have l := metS_len xs i
    rw [metS_step, List.take_add_one, List.getElem?_eq_getElem hi, Option.toList_some, List.nodup_append]
    have m := metS_mem xs xs[i] i (Nat.le_of_lt hi)
    rw [e]
    by_cases z : (metS xs i).any (· == xs[i]) = true
    · rw [if_pos z]
      refine ⟨fun q => by omega, fun q => ?_⟩
      exact absurd rfl (q.2.2 _ (m.mp z) _ (List.mem_singleton_self _))
    · rw [if_neg z]
      refine ⟨fun q => ⟨ih.mp (by omega), by simp, fun a ha b hb => ?_⟩, fun q => by have := ih.mpr q.1; omega⟩
      rw [List.mem_singleton.mp hb]
      rintro rfl
      exact z (m.mpr ha)
section
variable {prog : Program} {w : World} {A : Around} {R : Result → Shared → Prop} {I : Addr} {fp wr : List Addr} {G : Array GenState → Array GenState → Prop} {n : Nat} {P : Nat → Value → Prop} {St : Nat → Shared → Prop}
theorem loop_strs (W : WalksS prog w A.in1 I fp wr G n P St) (S : Addr) (hSf : S ∉ fp) (xs : List Str) (hn1 : n ≤ 1000) (hval : ∀ i v, P i v → ∃ t, v = .str (xs.getD i Str.empty) t) :
    ∀ (k i : Nat) (s : Shared), n - i = k → i ≤ n → St i s → s.heap.SetOf (PySem.strKind prog w) S (fun k' => (metS xs i).any (· == k')) (metS xs i).length →
      (∀ s', Moved (S :: wr) G s s' → s'.heap.SetOf (PySem.strKind prog w) S (fun k' => (metS xs n).any (· == k')) (metS xs n).length → R (.ok (.ret .none)) s') →
      codeAny (model prog w) A (.builtin "set.update.loop" ⟨[.ref S, .ref I], []⟩) R s := by
  have nw : S ∉ wr := fun z => hSf (W.sub _ z)
  have up : ∀ b ∈ wr, b ∈ S :: wr := fun b z => List.mem_cons_of_mem _ z
  have stay : ∀ {s s' : Shared} {X : Str → Bool} {m : Nat}, Moved wr G s s' → s.heap.SetOf (PySem.strKind prog w) S X m → s'.heap.SetOf (PySem.strKind prog w) S X m := by
    rintro s s' X m hm ⟨o, es, ep, t, ho, more⟩
    exact ⟨o, es, ep, t, hm.heap S _ nw ho, more⟩
  intro k
  induction k with
  | zero =>
    intro i s ek hi st hs hR
    obtain rfl : i = n := by omega
    refine codeAny_builtin PyProof.Rows.F.entry_set_update_loop ?_
    rw [Around.under_plainId PyProof.Rows.F.plain_set_update_loop _]
    show wpAny _ A.in1 (pyNext (.ref I) >>= _) _ _ s
    exact wpAny_bind (W.done s _ _ st fun s' hm => show wpAny _ A.in1 (ret Value.none) _ _ s' from wpAny_pure (hR s' (hm.mono up) (stay hm hs)))
  | succ k ih =>
    intro i s ek hi st hs hR
    have lt : i < n := by omega
    refine codeAny_builtin PyProof.Rows.F.entry_set_update_loop ?_
    rw [Around.under_plainId PyProof.Rows.F.plain_set_update_loop _]
    show wpAny _ A.in1 (pyNext (.ref I) >>= _) _ _ s
    refine wpAny_bind (W.item i s _ _ lt st fun v s' hP st' hm => ?_)
    obtain ⟨t, rfl⟩ := hval i v hP
    show wpAny _ A.in1 (holding [Value.str (xs.getD i Str.empty) t] (setAdd S (.str (xs.getD i Str.empty) t)) >>= _) _ _ s'
    refine wpAny_bind (wpAny_holding ?_)
    unfold setAdd
    have ll := metS_len xs i
    have hs' : s'.heap.SetOf (PySem.strKind prog w) S (fun k' => (metS xs i).any (· == k')) (metS xs i).length := stay hm hs
    refine wpAny_holding (wpAny_bind ((PySem.strKind prog w).pyHash (k := xs.getD i Str.empty) (strKind_is _ _ _ _) ?_))
    refine wpAny_setAddHashed_of (knd := PySem.strKind prog w) (s := { s' with toks := s'.toks + 1 }) (strKind_is _ _ _ _) rfl hs' (by unfold scanBound; omega) fun h' hb h2 => ?_
    have here : h'.SetOf (PySem.strKind prog w) S (fun k' => (metS xs (i + 1)).any (· == k')) (metS xs (i + 1)).length :=
      SetOf_congr h2 (fun k' => by rw [metS_any]) (by rw [metS_step])
    have same : ∀ b o, b ≠ S → s'.heap.get? b = some o → h'.get? b = some o := fun b o nb e => by rw [hb.2 b nb]; exact e
    refine wpAny_pure ⟨plainId_quiet PyProof.Rows.F.plain_set_update_loop _, ih (i + 1) _ (by omega) lt (W.frame _ s' _ _ st' (Nat.le_succ _) fun b z o e => same b o (fun q => hSf (q ▸ z)) e) here fun s2 m2 h3 => ?_⟩
    exact hR s2 (Moved.trans W.gtrans ((hm.mono up).then_heap (Nat.le_succ _) fun b o z e => same b o (fun q => z (q ▸ List.mem_cons_self)) e) m2) h3
end
section
variable {prog : Program} {w : World} {A : Around} {E : Value → Shared → Prop} {s : Shared}
abbrev newSet (led : Bool) : Obj := { cls := .type "set", dict := none, data := .set #[] 0 (.fresh 0 0 led) }
theorem sub_ts : isSubtype (.type "tuple") (.type "set") = pure false := by rw [isSubtype_type]; kernel_rfl
theorem sub_tf : isSubtype (.type "tuple") (.type "frozenset") = pure false := by rw [isSubtype_type]; kernel_rfl
set_option maxHeartbeats 6400000 in
theorem set_of_tup {l : Addr} {items : Array Value} {xs : List Str} {Q : Value → Shared → Prop} (hh : A.handled = none) (hl : s.heap.IsTuple l items) (hi : PyProof.Rows.StrsAre items.toList xs) (hn : xs.length ≤ 1000)
    (hq : ∀ (g : Heap) (tk : Nat), g.SetOf (PySem.strKind prog w) s.heap.objs.size (fun k' => (metS xs xs.length).any (· == k')) (metS xs xs.length).length → (∀ b o, s.heap.get? b = some o → g.get? b = some o) → Q (.ref s.heap.objs.size) { s with heap := g, toks := tk }) :
    wpAny (model prog w) A (call (.type "set") [.ref l]) Q E s := by
  obtain ⟨c, tl, hmro⟩ := PySem.F.called_set.mro
  have made := PySem.F.called_set.made
  have subs := PySem.F.called_set.sub
  have sz : xs.length = items.size := by rw [← StrsAre.len_eq hi, Array.length_toList]
  rw [sz] at hq
  refine wpAny_call (codeAny_of_tree ?_)
  show wpAny _ _ (callAny (.type "set") _) _ _ _
  refine wpAny_pure ⟨Code.quiet_builtin _ (by decide +kernel), codeAny_builtin PySem.F.entry_type_call ?_⟩
  rw [Around.under_plain (weight_type_call_type "set" [.ref l] []) rfl]
  have nt := PySem.F.called_set.notType
  have cc := PySem.F.called_set.canCreate
  have tc := PySem.F.typeCall_set_1 (.ref l)
  repeat (any_goals (first | assumption | wp_step))
  refine codeAny_mono (code_set_new_1 (.ref l) (E := E) (Q₁ := fun ob s1 => ∃ led, ob = .ref s.heap.objs.size ∧ s1 = { s with heap := s.heap.push (newSet led) }) fun led => ⟨led, rfl, rfl⟩) fun r s1 hr => ?_
  cases r with
  | error e => exact hr
  | ok fl =>
    cases fl with
    | next => exact hr.elim
    | brk => exact hr.elim
    | cont => exact hr.elim
    | ret ob =>
      obtain ⟨led, rfl, rfl⟩ := hr
      have gS : (s.heap.push (newSet led)).get? s.heap.objs.size = some (newSet led) := Heap.get?_push_size _ rfl
      have tS : Shared.TypeIs { s with heap := s.heap.push (newSet led) } (.ref s.heap.objs.size) "set" := ⟨_, gS, rfl⟩
      have li := PySem.F.called_set.init.lookup
      have bi := PySem.F.called_set.init.bind (.ref s.heap.objs.size)
      repeat (any_goals (first | assumption | wp_step))
      refine codeAny_mono (codeAny_call_builtin (R := wants (fun r s2 => r = .none ∧ ∃ g tk, s2 = { s with heap := g, toks := tk } ∧
          g.SetOf (PySem.strKind prog w) s.heap.objs.size (fun k' => (metS xs items.size).any (· == k')) (metS xs items.size).length ∧ (∀ b o, s.heap.get? b = some o → g.get? b = some o)) E)
          PySem.F.called_set.init.plain PySem.F.entry_set_init (check_set_init_1 tS ?_)) fun r2 s2 h2 => ?_
      · have s1 := sub_ts
        have s3 := sub_tf
        have hl1 : (s.heap.push (newSet led)).IsTuple l items := hl.push _
        have lS : l < s.heap.objs.size := by
          obtain ⟨o, ho, _⟩ := hl
          exact Heap.lt_size ho
        have tT : Shared.TypeIs { s with heap := s.heap.push (newSet led) } (.ref l) "tuple" := by
          obtain ⟨o, ho, hc, _⟩ := hl1
          exact ⟨o, ho, hc⟩
        have ne : (Value.type "tuple" == Value.type "dict") = false := by decide
        unfold Builtin.«set.__init__» noKeywords Builtin.Frozenset.updateFrom
        generalize hPI : pyIter = PI
        wp_walk
        subst hPI
        refine wpAny_pyIter_tuple hl1 (wpAny_bind (wpAny_runValue ?_))
        have e1 : (s.heap.push (newSet led)).objs.size = s.heap.objs.size + 1 := Heap.size_push _ _
        have n1 : l ≠ (s.heap.push (newSet led)).objs.size := by rw [e1]; exact Nat.ne_of_lt (Nat.lt_succ_of_lt lS)
        have n2 : s.heap.objs.size ∉ [(s.heap.push (newSet led)).objs.size, l] := by
          rw [e1]; simp only [List.mem_cons, List.not_mem_nil, or_false, not_or]; exact ⟨Nat.ne_of_lt (Nat.lt_succ_self _), Nat.ne_of_gt lS⟩
        have hv : ∀ (i : Nat) (v : Value), items[i]? = some v → ∃ t, v = .str (xs.getD i Str.empty) t := fun i v q => SS.strs_at hi i v (by rw [Array.getElem?_toList]; exact q)
        have hh3 : A.in1.in1.in1.handled = none := by simp [hh]
        refine loop_strs ((Walks.tuple hh3 _ l n1 items).toS) s.heap.objs.size n2 xs (by omega) hv (items.size - 0) 0 _ (by omega) (Nat.zero_le _) ⟨⟨_, Heap.get?_push_size _ rfl, rfl, rfl⟩, hl1.push _⟩ ?_ ?_
        · exact SetOf_congr ((setObjOf_fresh (knd := PySem.strKind prog w) led).setOf (Heap.get?_push_of_some _ gS) (by unfold scanBound; omega)) (fun _ => rfl) rfl
        · intro s' hm hS'
          obtain ⟨h', g', d', tk', os'⟩ := s'
          obtain rfl : g' = s.gens := hm.gens
          obtain rfl : d' = s.drawn := hm.drawn
          obtain rfl : os' = s.os := hm.os
          show wpAny _ _ _ _ _ _
          refine wpAny_pure ?_
          show wpAny _ _ (ret Value.none) _ _ _
          refine wpAny_pure ⟨rfl, h', tk', rfl, hS', fun b o e => hm.heap b o ?_ (Heap.get?_push_of_some _ (Heap.get?_push_of_some _ e))⟩
          have hb : b < s.heap.objs.size := Heap.lt_size e
          rw [e1]; simp only [List.mem_cons, List.not_mem_nil, or_false, not_or]; exact ⟨Nat.ne_of_lt hb, Nat.ne_of_lt (Nat.lt_succ_of_lt hb)⟩
      · cases r2 with
        | error e => exact h2
        | ok f2 =>
          cases f2 with
          | next => exact h2.elim
          | brk => exact h2.elim
          | cont => exact h2.elim
          | ret r =>
            obtain ⟨rfl, g, tk, rfl, hS, hk⟩ := h2
            repeat (any_goals (first | assumption | wp_step))
            exact hq _ _ hS hk
end
/-- len(set(e)), e a tuple of texts -/
def tLenSetT (K : PySem.W.Frag) (ta : TE) : TE := fun σ H Q => ta σ H fun v H1 => ∃ (a : Addr) (xs : List Str), v = .ref a ∧ SqT K H1 a (xs.map V.str) ∧ xs.length ≤ 1000 ∧ Q (.int ((metS xs xs.length).length : Nat)) H1
theorem pe_lenSetT {X : Cx} {a : Expr} {ta : TE} {p p2 q pos : Pos} (hc : X.calm = true) (hg : Gl X "len") (hm : X.mg "len" = none) (hg2 : Gl X "set") (hm2 : X.mg "set" = none) (ha : PE X a ta)
    (na : starEach [a] X.env = (false, eval a X.env) :: starEach [] X.env := by rfl) : PE X (.Call (.Name "len" p) [.Call (.Name "set" p2) [a] [] q] [] pos) (tLenSetT X.K ta) := by
  constructor
  intro pins s σ H Q I h
  apply Call_ (ld_blt I hg hm boot_len _)
  refine PyProof.Rows.callWith_builtin1 (PyProof.Rows.args_cons (Call_ (ld_blt I hg2 hm2 boot_set ?_)) rfl) rfl rfl
  refine PyProof.Rows.callWith_type1 (PyProof.Rows.args_cons (thn (ha.run pins s σ H _ I h) ?_) na) na rfl
  rintro v s1 ⟨y, H1, I1, r1, l, xs, rfl, hx, hl, q1⟩
  cases r1
  obtain ⟨its, r, pl, hz⟩ := I1.tuple hx
  refine PyProof.Rows.args_nil (set_of_tup (I1.ok.hd hc) pl (by simpa using strsAre_of r) hl fun g tk hS hk => PyProof.Rows.args_nil ?_)
  obtain ⟨o, es, ep, t, ho, hex, hd, _, _, _, hf, hn⟩ := hS
  have I2 : Inv X pins σ H1 { s1 with heap := g, toks := tk } := I1.kept hk
  have ll := metS_len xs xs.length
  exact call_len_set ho hex hd hf (by rw [hn] <;> omega) ⟨.int _, H1, I2.tok _, ⟨_, by rw [hn]⟩, q1⟩
end Pd

set_option maxHeartbeats 4000000
namespace Pd
open PySem PySem.Spec PyProof.Rows L2 SX
/-! ### Doors.folded by distinct names -/
def nmV (d : Dr) : V := .str d.nm
theorem nm_inj {d e : Dr} (h : d.nm = e.nm) : d = e := by
  cases d <;> cases e <;> first | rfl | (exact absurd h (by decide +kernel))
theorem nms_nodup {ns : List Dr} : (ns.map Dr.nm).Nodup ↔ ns.Nodup := by
  unfold List.Nodup
  rw [List.pairwise_map]
  exact ⟨fun h => h.imp fun z e => z (congrArg Dr.nm e), fun h => h.imp fun z e => z (nm_inj e)⟩
theorem in_nms (d : Dr) (ns : List Dr) : inV (nmV d) (ns.map nmV) = decide (d ∈ ns) := by
  unfold inV
  induction ns with
  | nil => rfl
  | cons e ns ih =>
    rw [List.map_cons, List.any_cons, ih]
    have z : eqV (nmV e) (nmV d) = decide (d = e) := by cases d <;> cases e <;> decide +kernel
    rw [z]
    by_cases h : d = e <;> simp [h]
theorem flat_nms (ns : List Dr) : (ns.map nmV).all flatV = true := by
  induction ns with
  | nil => rfl
  | cons e ns ih => rw [List.map_cons, List.all_cons, ih]; rfl
def spAreNames (K : PySem.W.Frag) : Sp := fun vs H Q _ => ∃ (a : Addr) (ns : List Dr), vs = [.ref a] ∧ SqT K H a (ns.map nmV) ∧ ns.length ≤ 1000 ∧ ∀ H', Ext H H' → Q (.bl (decide ns.Nodup)) H'
def pk {α : Type} (ns : List Dr) (d : Dr) (w a : α) : α := if d ∈ ns then w else a
def spFolded (K : PySem.W.Frag) (C CD : Addr) : Sp := fun vs H Q _ => ∃ (d a : Addr) (ns : List Dr) (o1 o2 o3 o4 r1 r2 r3 r4 : Addr) (s1 s2 s3 s4 : List Stp), vs = [.ref d, .ref a] ∧ SqT K H a (ns.map nmV) ∧ ns.Nodup ∧ ns.length ≤ 1000 ∧ DrAt K C CD H d o1 o2 o3 o4 r1 r2 r3 r4 s1 s2 s3 s4 ∧
  ∀ x H', H x = none → DrAt K C CD H' x (pk ns .put o4 o1) (pk ns .find o4 o2) (pk ns .strike o4 o3) o4 (pk ns .put r4 r1) (pk ns .find r4 r2) (pk ns .strike r4 r3) r4 (pk ns .put s4 s1) (pk ns .find s4 s2) (pk ns .strike s4 s3) s4 → Ext H H' → Q (.ref x) H'
theorem pk_fold {K : PySem.W.Frag} {C : Addr} {H : Hp} {ns : List Dr} {d : Dr} {ow o rw' r : Addr} {sw s : List Stp} (hw : FoldAt K C H ow rw' sw) (h : FoldAt K C H o r s) : FoldAt K C H (pk ns d ow o) (pk ns d rw' r) (pk ns d sw s) := by
  unfold pk; split
  · exact hw
  · exact h
section
variable {P : Program} {w : World} {K : PySem.W.Frag} {mg : Str → Option Value} {base : Heap}
theorem ok_areNames {f : Addr} {fd : FuncData} (F : Fun K "_are_names" "_are_names" sAreNames f fd) (T : Nms mg) (G : Cl P w K mg base 1 "_is_name" spIsName) : FnOk P w K mg base CX0 2 f fd ["value"] (spAreNames K) := by
  refine F.ok scAreNames (fun vs H Q E h => ?_) (fun cdv A outer s H vs Q E hr h => ?_)
  · obtain ⟨a, ns, rfl, _⟩ := h
    rfl
  · obtain ⟨a, ns, rfl, ha, hl, q⟩ := h
    have nd := scAreNames.nd
    refine ⟨_, pss_cons (ps_if (pt_not (pt_val (pe_callB call_isi (by rfl) T.isi (by decide +kernel) (pa_cons (pv 0) (pa_cons (pe_bltn (v := .ty "tuple") (by rfl) T.tuple (by decide +kernel) rfl) pa_nil))))) pss_never pss_nil)
      (pss_cons (ps_if (pt_not (pt_val (pe_callB (cr_all rfl) (by rfl) T.all (by decide +kernel) (pa_cons (pe_lc (own := [("name", 1)]) (g := gName 1) (tt := tYes) rfl nd (pi_tup (pv 0)) (blkOk_by (N := ["value", "name"]) (sc := defScope sAreNames) (by decide +kernel)) (fun _ _ _ _ _ => pg_name (i := 1) nd rfl (Or.inl rfl)) (fun _ _ _ _ _ => pts_nil)
          (fun _ _ _ _ _ => pe_cl G hr (by decide) rfl (pa_cons (pv 1) pa_nil))) pa_nil)))) pss_never pss_nil)
      (pss_one (ps_ret (pe_cmpR op_eq (pe_lenSetT rfl (by rfl) T.len (by rfl) T.set (pv 0)) (pe_callB call_len_seq (by rfl) T.len PySem.boot_len (pa_cons (pv 0) pa_nil)) (nomark _))))), ?_⟩
    refine ⟨_, rfl, _, _, _, _, true, rfl, .ty "tuple", sqT_ty ha, kit_ty (by decide +kernel), true, rfl, iteF ?_⟩
    refine ⟨_, rfl, a, rfl, ⟨_, ha⟩, fun D hD => ?_⟩
    refine lc_it (walk_tup (xs := ns.map nmV)) (fun i H' => H' D = some (.lst ((List.replicate i true).map V.bl)) ∧ Ext H H') ⟨upd_same, Ext.refl.new hD⟩ (fun i H' _ z => sqT_keep ha fun o e => z.2 a o e) ?_ ?_
    · rintro i x H2 H3 hi ⟨h2, k2⟩ ⟨rfl, hx⟩
      rw [List.getElem?_map] at hx
      obtain ⟨d, hd, rfl⟩ := Option.map_eq_some_iff.mp hx
      have hi' : i < ns.length := (List.getElem?_eq_some_iff.mp hd).1
      refine ⟨rfl, _, rfl, d, rfl, _, h2, ?_, ?_, k2.new hD⟩
      · rw [List.length_map, List.length_replicate, sizeLine_eq]; omega
      · rw [upd_same, List.replicate_succ', List.map_append]; rfl
    rintro H2 ⟨h2, k2⟩
    refine ⟨D, _, rfl, SqL.of h2, ?_⟩
    have e : (List.replicate (ns.map nmV).length true).all id = true := by rw [List.all_replicate]; simp
    rw [e]
    refine ⟨true, rfl, iteF ?_⟩
    have ha2 := sqT_keep ha fun o e => k2 a o e
    have e2 : (ns.map Dr.nm).map V.str = ns.map nmV := by rw [List.map_map]; rfl
    refine ⟨_, rfl, a, ns.map Dr.nm, rfl, by rw [e2]; exact ha2, by rw [List.length_map]; exact hl, ?_⟩
    refine ⟨_, rfl, a, _, rfl, .inr ha2, rfl, ?_⟩
    have key : decide (V.int ((metS (ns.map Dr.nm) (ns.map Dr.nm).length).length : Nat) = V.int ((ns.map nmV).length : Nat)) = decide ns.Nodup := by
      refine decide_eq_decide.mpr ⟨fun z => ?_, fun z => ?_⟩
      · injection z with z
        have z' : (metS (ns.map Dr.nm) (ns.map Dr.nm).length).length = (ns.map Dr.nm).length := by
          have e3 : (ns.map nmV).length = (ns.map Dr.nm).length := by rw [List.length_map, List.length_map]
          rw [e3] at z; omega
        have y := (metS_full (ns.map Dr.nm) _ (Nat.le_refl _)).mp z'
        rw [List.take_length] at y
        exact nms_nodup.mp y
      · have y := (metS_full (ns.map Dr.nm) _ (Nat.le_refl _)).mpr (by rw [List.take_length]; exact nms_nodup.mpr z)
        rw [y, List.length_map, List.length_map]
    rw [key]
    exact q H2 k2
theorem ok_folded' {f Cf CD : Addr} {fd : FuncData} (F : Fun K "folded" "Doors.folded" sDoorsFolded f fd) (Y : Drs P w K mg base CD) (G : Cl P w K mg base 2 "_are_names" (spAreNames K)) : FnOk P w K mg base CX0 3 f fd ["self", "names"] (spFolded K Cf CD) := by
  refine F.ok scDoorsFolded (fun vs H Q E h => ?_) (fun cdv A outer s H vs Q E hr h => ?_)
  · obtain ⟨d, a, ns, o1, o2, o3, o4, r1, r2, r3, r4, s1, s2, s3, s4, rfl, _⟩ := h
    rfl
  · obtain ⟨d, a, ns, o1, o2, o3, o4, r1, r2, r3, r4, s1, s2, s3, s4, rfl, ha, hn, hl, hD, q⟩ := h
    have nd := scDoorsFolded.nd
    obtain ⟨fj, fdj, MD, FJ, bJ⟩ := Y.made
    refine ⟨_, pss_cons (ps_if (pt_not (pt_val (pe_cl G hr (by decide) rfl (pa_cons (pv 1) pa_nil)))) pss_never pss_nil)
      (C8.pss_cut (ps_set (i := 2) nd rfl (Or.inl rfl) (pe_ifExp (pt_cmpR op_in_seq pe_str (pv 1) rfl) (pe_fld (pv 0) rfl) (pe_fld (pv 0) rfl)))
      (C8.pss_cut (ps_set (i := 3) nd rfl (Or.inl rfl) (pe_ifExp (pt_cmpR op_in_seq pe_str (pv 1) rfl) (pe_fld (pv 0) rfl) (pe_fld (pv 0) rfl)))
      (C8.pss_cut (ps_set (i := 4) nd rfl (Or.inl rfl) (pe_ifExp (pt_cmpR op_in_seq pe_str (pv 1) rfl) (pe_fld (pv 0) rfl) (pe_fld (pv 0) rfl)))
      (pss_one (ps_ret (pe_make MD FJ (hr.mono (by decide)) rfl Y.z.mgC bJ .nil pass0 (pa_cons (pv 2) (pa_cons (pv 3) (pa_cons (pv 4) (pa_cons (pe_fld (pv 0) rfl) pa_nil)))))))))), ?_⟩
    refine ⟨_, rfl, a, ns, rfl, ha, hl, fun H1 k1 => ⟨_, rfl, ?_⟩⟩
    rw [decide_eq_true hn]
    refine iteF ?_
    have ha1 := sqT_keep ha fun o e => k1 a o e
    have hD1 := hD.ext k1
    obtain ⟨dx, e⟩ := hD1.ins
    have look : ∀ (n : Dr) (A B : Prop), (n ∈ ns → A) → (n ∉ ns → B) → if (if false = true then !inV (.str n.nm) (ns.map nmV) else inV (.str n.nm) (ns.map nmV)) = true then A else B := by
      intro n A B x y
      show if inV (nmV n) (ns.map nmV) = true then A else B
      rw [in_nms]
      by_cases h : n ∈ ns
      · rw [decide_eq_true h]; exact x h
      · rw [decide_eq_false h]; exact y h
    have fl := flat_nms ns
    have s3 : ∀ n : Dr, flatV (.str n.nm) = true := fun n => rfl
    refine ⟨fun σ' H' => σ' = [some (.ref d), some (.ref a), some (.ref (pk ns .put o4 o1)), none, none] ∧ H' = H1, ?_, ?_⟩
    · refine ⟨_, rfl, a, _, rfl, .inr ha1, s3 .put, fl, _, rfl, look .put _ _ (fun h => ?_) (fun h => ?_)⟩
      · refine ⟨_, rfl, d, CD, dx, _, _, rfl, e, Y.z.cl, Y.z.n4, rfl, ?_, rfl⟩
        rw [show pk ns .put o4 o1 = o4 by unfold pk; rw [if_pos h]]; rfl
      · refine ⟨_, rfl, d, CD, dx, _, _, rfl, e, Y.z.cl, Y.z.n1, rfl, ?_, rfl⟩
        rw [show pk ns .put o4 o1 = o1 by unfold pk; rw [if_neg h]]; rfl
    rintro σ2 H2 ⟨rfl, rfl⟩
    refine ⟨fun σ' H' => σ' = [some (.ref d), some (.ref a), some (.ref (pk ns .put o4 o1)), some (.ref (pk ns .find o4 o2)), none] ∧ H' = H2, ?_, ?_⟩
    · refine ⟨_, rfl, a, _, rfl, .inr ha1, s3 .find, fl, _, rfl, look .find _ _ (fun h => ?_) (fun h => ?_)⟩
      · refine ⟨_, rfl, d, CD, dx, _, _, rfl, e, Y.z.cl, Y.z.n4, rfl, ?_, rfl⟩
        rw [show pk ns .find o4 o2 = o4 by unfold pk; rw [if_pos h]]; rfl
      · refine ⟨_, rfl, d, CD, dx, _, _, rfl, e, Y.z.cl, Y.z.n2, rfl, ?_, rfl⟩
        rw [show pk ns .find o4 o2 = o2 by unfold pk; rw [if_neg h]]; rfl
    rintro σ3 H3 ⟨rfl, rfl⟩
    refine ⟨fun σ' H' => σ' = [some (.ref d), some (.ref a), some (.ref (pk ns .put o4 o1)), some (.ref (pk ns .find o4 o2)), some (.ref (pk ns .strike o4 o3))] ∧ H' = H3, ?_, ?_⟩
    · refine ⟨_, rfl, a, _, rfl, .inr ha1, s3 .strike, fl, _, rfl, look .strike _ _ (fun h => ?_) (fun h => ?_)⟩
      · refine ⟨_, rfl, d, CD, dx, _, _, rfl, e, Y.z.cl, Y.z.n4, rfl, ?_, rfl⟩
        rw [show pk ns .strike o4 o3 = o4 by unfold pk; rw [if_pos h]]; rfl
      · refine ⟨_, rfl, d, CD, dx, _, _, rfl, e, Y.z.cl, Y.z.n3, rfl, ?_, rfl⟩
        rw [show pk ns .strike o4 o3 = o3 by unfold pk; rw [if_neg h]]; rfl
    rintro σ4 H4 ⟨rfl, rfl⟩
    refine ⟨_, rfl, _, rfl, _, rfl, _, rfl, d, CD, dx, _, _, rfl, e, Y.z.cl, Y.z.n4, rfl, fun x dx' hx hdx ne => dmade_ask (pk_fold hD1.f4 hD1.f1) (pk_fold hD1.f4 hD1.f2) (pk_fold hD1.f4 hD1.f3) hD1.f4 hx hdx ne fun H9 D9 k9 => ⟨rfl, q x H9 ?_ D9 (k1.trans k9)⟩⟩
    cases z : H x with
    | none => rfl
    | some o => rw [k1 x o z] at hx; cases hx
end
end Pd

set_option maxHeartbeats 4000000
namespace Pd
open PySem PySem.Spec PyProof.Rows L2 SX
theorem takesNone {X : Cx} : Takes X (fun _ _ _ _ => False) := fun _ _ x => by
  obtain ⟨_, _, _, _, _, _, _, _, _, _, _, _, _, _, _, _, z⟩ := x
  exact z.elim
/-- an own error over ValueError without an __init__ -/
structure ExV (K : PySem.W.Frag) (mg : Str → Option Value) (x : Str) (C : Addr) : Prop where
  g : mg x = some (.ref C)
  x : PySem.W.excIn K C [.type "ValueError", .type "Exception", .type "BaseException", .type "object"] "ValueError.__new__" = true
  k : PySem.W.keepIn K (.ref C) = true
  b : PySem.W.subIn K (.ref C) (.type "BaseException") = some true
  t : PySem.W.typeIn K (.ref C) = some (.type "type")
theorem exm_me {K : PySem.W.Frag} {C : Addr} (b : PySem.W.subIn K (.ref C) (.type "BaseException") = some true) (i : PySem.W.isClsIn K C = true) (t : PySem.W.typeIn K (.ref C) = some (.type "type")) (s : PySem.W.subIn K (.ref C) (.ref C) = some true) : PySem.W.exmOne K (.ref C) (.ref C) = some true := by
  have e : (PySem.W.clsIn K C).isSome = true := i
  simp [PySem.W.exmOne, PySem.W.kitCls, b, t, s, e]
/-- __call__ of any short text -/
def spFCallX (K : PySem.W.Frag) (C CN : Addr) : Sp := fun vs H Q E => ∃ (o r : Addr) (sts : List Stp) (l : List Nat), vs = [.ref o, .str (S l)] ∧ FoldAt K C H o r sts ∧ l.length ≤ 1000 ∧
  (goodB l = true → ∀ H', Ext H H' → Q (.str (S (mks sts l))) H') ∧ (goodB l = false → ∀ H', Ext H H' → E (.ref CN) none H')
def spRefused (K : PySem.W.Frag) (C : Addr) : Sp := fun vs H Q _ => ∃ (o r : Addr) (sts : List Stp) (l : List Nat), vs = [.ref o, .str (S l)] ∧ FoldAt K C H o r sts ∧ l.length ≤ 1000 ∧ ∀ H', Ext H H' → Q (.bl (!goodB l)) H'
/-- the call of a folding that may raise -/
structure FolX (P : Program) (w : World) (K : PySem.W.Frag) (mg : Str → Option Value) (base : Heap) (C CN : Addr) : Prop where
  call : ∃ (g : Addr) (fd : FuncData), StX.CallO K C g ∧ FnOk P w K mg base (L2.CX P w) 4 g fd ["self", "text"] (spFCallX K C CN) ∧ Binds K fd ["self", "text"] []
  gN : mg "NoText" = some (.ref CN)
  eN : PySem.W.exmOne K (.ref CN) (.ref CN) = some true
section
variable {P : Program} {w : World} {K : PySem.W.Frag} {mg : Str → Option Value} {base : Heap}
theorem ok_fcallX {f Cf CN : Addr} {fd : FuncData} (F : Fun K "__call__" "Folding.__call__" sFoldingCall f fd) (T : Nms mg) (Z : Fcl K mg Cf) (N : ExV K mg "NoText" CN) (G : Cl P w K mg base 1 "is_text" spIsText) (G2 : Cl P w K mg base 3 "made_by_steps" (spMadeSteps K)) :
    FnOk P w K mg base (L2.CX P w) 4 f fd ["self", "text"] (spFCallX K Cf CN) := by
  refine F.okX scFoldingCall (fun vs H Q E h => ?_) (fun cdv A outer s H vs Q E hr h => ?_)
  · obtain ⟨o, r, sts, l, rfl, _⟩ := h
    rfl
  · obtain ⟨o, r, sts, l, rfl, hF, hl, q1, q2⟩ := h
    refine ⟨_, pss_cons (ps_if (pt_not (pt_val (pe_cl G hr (by decide) rfl (pa_cons (pv 1) pa_nil)))) (pss_one (ps_raise rfl (takes_of rfl rfl rfl rfl) (pmk_own PySem.F.excBase_ValueError N.x N.g N.k (raises_own N.b N.t) (by exact rfl)))) pss_nil)
      (pss_one (ps_ret (pe_cl G2 hr (by decide) rfl (pa_cons (pe_fld (pv 0) rfl) (pa_cons (pv 1) pa_nil))))), ?_⟩
    refine ⟨_, rfl, l, rfl, hl, fun H2 k2 => ⟨_, rfl, ?_⟩⟩
    cases hg : goodB l with
    | true =>
      refine iteF ?_
      obtain ⟨⟨dx, e⟩, hR, h6⟩ := hF.ext k2
      exact ⟨_, rfl, o, Cf, dx, _, _, rfl, e, Z.cl, Z.nS, rfl, _, rfl, r, sts, l, rfl, hR, goodB_iff.mp hg, fun H3 k3 => q1 hg H3 (k2.trans k3)⟩
    | false => exact iteT (q2 hg H2 k2)
end
end Pd

set_option maxHeartbeats 4000000
namespace Pd
open PySem PySem.Spec PyProof.Rows L2 SX
/-! ### values that are no texts -/
theorem sqL_ty {K : PySem.W.Frag} {H : Hp} {a : Addr} {xs : List V} (h : SqL K H a xs) : TyX K H (.ref a) (.type "list") := by
  rcases h with (h | ⟨o, h⟩) | ⟨o, its, n, h, c, _⟩
  · exact .base (.lst h)
  · exact .base (.frz h)
  · exact .kList h c
inductive Wr (K : PySem.W.Frag) (H : Hp) : V → Prop where
  | non : Wr K H .non
  | int (i : Int) : Wr K H (.int i)
  | bl (b : Bool) : Wr K H (.bl b)
  | lst {a : Addr} {xs : List V} (h : SqL K H a xs) : Wr K H (.ref a)
  | tup {a : Addr} {xs : List V} (h : SqT K H a xs) : Wr K H (.ref a)
  | dct {a : Addr} {kvs : List (Key × V)} (h : H a = some (.dK kvs)) : Wr K H (.ref a)
  | str (l : List Nat) (hl : l.length ≤ 1000) (g : goodB l = false) : Wr K H (.str (S l))
theorem Wr.ext {K : PySem.W.Frag} {H H' : Hp} {x : V} (h : Wr K H x) (k : Ext H H') : Wr K H' x := by
  cases h with
  | non => exact .non
  | int i => exact .int i
  | bl b => exact .bl b
  | lst h => exact .lst (sqL_keep h fun o e => k _ o e)
  | tup h => exact .tup (sqT_keep h fun o e => k _ o e)
  | dct h => exact .dct (k _ _ h)
  | str l hl g => exact .str l hl g
/-- no string at all -/
def NoStr (K : PySem.W.Frag) (H : Hp) (x : V) : Prop := ∃ t : String, TyX K H x (.type t) ∧ kitB t "str" = some false
theorem Wr.no {K : PySem.W.Frag} {H : Hp} {x : V} (h : Wr K H x) : NoStr K H x ∨ ∃ l, x = .str (S l) ∧ l.length ≤ 1000 ∧ goodB l = false := by
  cases h with
  | non => exact .inl ⟨_, .base .non, by decide +kernel⟩
  | int i => exact .inl ⟨_, .base (.int i), by decide +kernel⟩
  | bl b => exact .inl ⟨_, .base (.bl b), by decide +kernel⟩
  | lst h => exact .inl ⟨_, sqL_ty h, by decide +kernel⟩
  | tup h => exact .inl ⟨_, sqT_ty h, by decide +kernel⟩
  | dct h => exact .inl ⟨_, .base (.dK h), by decide +kernel⟩
  | str l hl g => exact .inr ⟨l, rfl, hl, g⟩
theorem fnOk_or {P : Program} {w : World} {K : PySem.W.Frag} {mg : Str → Option Value} {base : Heap} {CX : CXT} {k : Nat} {f : Addr} {fd : FuncData} {ps : List Str} {sp sp1 sp2 : Sp} (F1 : FnOk P w K mg base CX k f fd ps sp1) (F2 : FnOk P w K mg base CX k f fd ps sp2)
    (h : ∀ vs H Q E, sp vs H Q E → sp1 vs H Q E ∨ sp2 vs H Q E) : FnOk P w K mg base CX k f fd ps sp :=
  ⟨fun vs H Q E x => (h vs H Q E x).elim (F1.len vs H Q E) (F2.len vs H Q E), fun A outer s H args us vs Q E hr e0 hb r x => (h vs H Q E x).elim (F1.run A outer s H args us vs Q E hr e0 hb r) (F2.run A outer s H args us vs Q E hr e0 hb r)⟩
def spNoStr (K : PySem.W.Frag) : Sp := fun vs H Q _ => ∃ x, vs = [x] ∧ NoStr K H x ∧ Q (.bl false) H
def spIsTextW (K : PySem.W.Frag) : Sp := fun vs H Q _ => ∃ x, vs = [x] ∧ Wr K H x ∧ ∀ H', Ext H H' → Q (.bl false) H'
def spFCallW (K : PySem.W.Frag) (C CN : Addr) : Sp := fun vs H _ E => ∃ (o : Addr) (x : V), vs = [.ref o, x] ∧ Wr K H x ∧ ∀ H', Ext H H' → E (.ref CN) none H'
def spFInW (K : PySem.W.Frag) : Sp := fun vs H Q _ => ∃ (o : Addr) (x : V), vs = [.ref o, x] ∧ Wr K H x ∧ ∀ H', Ext H H' → Q (.bl false) H'
section
variable {P : Program} {w : World} {K : PySem.W.Frag} {mg : Str → Option Value} {base : Heap}
theorem ok_isTextN {f : Addr} {fd : FuncData} (F : Fun K "is_text" "is_text" sIsText f fd) (T : Nms mg) (C : Cst mg) : FnOk P w K mg base CX0 1 f fd ["value"] (spNoStr K) := by
  refine F.ok scIsText (fun vs H Q E h => ?_) (fun cdv A outer s H vs Q E hr h => ?_)
  · obtain ⟨x, rfl, _⟩ := h
    rfl
  · obtain ⟨x, rfl, ⟨t, ty, kb⟩, q⟩ := h
    have nd := scIsText.nd
    obtain ⟨tc, hc⟩ := C.chars
    obtain ⟨tm, hm⟩ := C.most
    refine ⟨_, pss_cons (ps_if (PW.pt (pw_or (pt_not (pt_val (pe_callB call_isi (by rfl) T.isi (by decide +kernel) (pa_cons (pv 0) (pa_cons (pe_bltn (v := .ty "str") (by rfl) T.str (by decide +kernel) rfl) pa_nil)))))
        (pw_or1 (pt_cmpR op_gt (pe_callB call_len_str (by rfl) T.len PySem.boot_len (pa_cons (pv 0) pa_nil)) (pe_glob (v := .int 60) rfl hm ⟨_, rfl⟩) (nomark _))))) (pss_one (ps_ret pe_bl)) pss_nil)
      (pss_one (ps_ret (pe_callB (cr_all rfl) (by rfl) T.all (by decide +kernel) (pa_cons (pe_lc (own := [("character", 1)]) (g := gName 1) (tt := tYes) rfl nd (pi_str (pv 0)) (blkOk_by (N := ["value", "character"]) (sc := defScope sIsText) (by decide +kernel)) (fun _ _ _ _ _ => pg_name (i := 1) nd rfl (Or.inl rfl)) (fun _ _ _ _ _ => pts_nil)
          (fun _ _ _ _ _ => pe_cmpR op_in_sign (pv 1) (pe_glob (v := .str _) rfl hc ⟨_, rfl⟩) rfl)) pa_nil)))), ?_⟩
    exact ⟨_, rfl, _, _, _, _, false, rfl, .ty "str", ty, kit_ty kb, false, rfl, iteT (iteT q)⟩
theorem ok_isTextW {f : Addr} {fd : FuncData} (F : Fun K "is_text" "is_text" sIsText f fd) (T : Nms mg) (C : Cst mg) : FnOk P w K mg base CX0 1 f fd ["value"] (spIsTextW K) :=
  fnOk_or (ok_isText F T C) (ok_isTextN F T C) fun vs H Q E ⟨x, e, h, q⟩ => by
    subst e
    rcases h.no with n | ⟨l, rfl, hl, g⟩
    · exact .inr ⟨x, rfl, n, q H .refl⟩
    · exact .inl ⟨l, rfl, hl, fun H' k => by rw [g]; exact q H' k⟩
theorem ok_fcallW {f Cf CN : Addr} {fd : FuncData} (F : Fun K "__call__" "Folding.__call__" sFoldingCall f fd) (T : Nms mg) (Z : Fcl K mg Cf) (N : ExV K mg "NoText" CN) (G : Cl P w K mg base 1 "is_text" (spIsTextW K)) (G2 : Cl P w K mg base 3 "made_by_steps" (spMadeSteps K)) :
    FnOk P w K mg base (L2.CX P w) 4 f fd ["self", "text"] (spFCallW K Cf CN) := by
  refine F.okX scFoldingCall (fun vs H Q E h => ?_) (fun cdv A outer s H vs Q E hr h => ?_)
  · obtain ⟨o, x, rfl, _⟩ := h
    rfl
  · obtain ⟨o, x, rfl, hx, q⟩ := h
    refine ⟨_, pss_cons (ps_if (pt_not (pt_val (pe_cl G hr (by decide) rfl (pa_cons (pv 1) pa_nil)))) (pss_one (ps_raise rfl (takes_of rfl rfl rfl rfl) (pmk_own PySem.F.excBase_ValueError N.x N.g N.k (raises_own N.b N.t) (by exact rfl)))) pss_nil)
      (pss_one (ps_ret (pe_cl G2 hr (by decide) rfl (pa_cons (pe_fld (pv 0) rfl) (pa_cons (pv 1) pa_nil))))), ?_⟩
    exact ⟨_, rfl, x, rfl, hx, fun H2 k2 => ⟨_, rfl, iteT (q H2 k2)⟩⟩
theorem ok_finW {f Cf : Addr} {fd : FuncData} (F : Fun K "__contains__" "Folding.__contains__" sFoldingContains f fd) (T : Nms mg) (Z : Fcl K mg Cf) (G : Cl P w K mg base 1 "is_text" (spIsTextW K)) (G2 : Cl P w K mg base 3 "made_by_steps" (spMadeSteps K)) :
    FnOk P w K mg base CX0 4 f fd ["self", "x"] (spFInW K) := by
  refine F.ok scFoldingContains (fun vs H Q E h => ?_) (fun cdv A outer s H vs Q E hr h => ?_)
  · obtain ⟨o, x, rfl, _⟩ := h
    rfl
  · obtain ⟨o, x, rfl, hx, q⟩ := h
    refine ⟨_, pss_one (ps_ret (pe_and (pe_cl G hr (by decide) rfl (pa_cons (pv 1) pa_nil)) (pe_one (pe_cmpR op_eq (pe_cl G2 hr (by decide) rfl (pa_cons (pe_fld (pv 0) rfl) (pa_cons (pv 1) pa_nil))) (pv 1) (nomark _))))), ?_⟩
    exact ⟨_, rfl, x, rfl, hx, fun H2 k2 => ⟨_, rfl, iteF (q H2 k2)⟩⟩
end
end Pd

set_option maxHeartbeats 4000000
namespace Pd
open PySem PySem.Spec PyProof.Rows L2 SX
/-! ### what is no tuple of distinct names -/
def NMS : List V := [.str "put", .str "find", .str "strike"]
/-- an item of a tuple: whether it is a name -/
inductive ElB (K : PySem.W.Frag) (H : Hp) : V → Bool → Prop where
  | nm (d : Dr) : ElB K H (nmV d) true
  | str (s : Str) (h : inV (.str s) NMS = false) : ElB K H (.str s) false
  | oth {v : V} (h : Wr K H v) (n : ∀ s, v ≠ .str s) : ElB K H v false
inductive ElAll (K : PySem.W.Frag) (H : Hp) : List V → List Bool → Prop where
  | nil : ElAll K H [] []
  | cons {v : V} {b : Bool} {vs : List V} {bs : List Bool} (h : ElB K H v b) (r : ElAll K H vs bs) : ElAll K H (v :: vs) (b :: bs)
section
variable {K : PySem.W.Frag} {H H' : Hp}
theorem ElB.ext {v : V} {b : Bool} (h : ElB K H v b) (k : Ext H H') : ElB K H' v b := by
  cases h with
  | nm d => exact .nm d
  | str s h => exact .str s h
  | oth h n => exact .oth (h.ext k) n
theorem ElAll.ext (k : Ext H H') : ∀ {vs : List V} {bs : List Bool}, ElAll K H vs bs → ElAll K H' vs bs
  | _, _, .nil => .nil
  | _, _, .cons h r => .cons (h.ext k) (r.ext k)
theorem ElAll.len : ∀ {vs : List V} {bs : List Bool}, ElAll K H vs bs → vs.length = bs.length
  | _, _, .nil => rfl
  | _, _, .cons _ r => congrArg (· + 1) r.len
theorem ElAll.get : ∀ {vs : List V} {bs : List Bool} {i : Nat} {v : V}, ElAll K H vs bs → vs[i]? = some v → ∃ b, bs[i]? = some b ∧ ElB K H v b
  | _, _, _, _, .nil, e => by simp at e
  | _, _, 0, _, .cons h r, e => by
    simp at e; subst e
    exact ⟨_, by simp, h⟩
  | _, _, i + 1, _, .cons h r, e => by
    obtain ⟨b, e1, h1⟩ := r.get (i := i) (by simpa using e)
    exact ⟨b, by simpa using e1, h1⟩
theorem ElAll.append : ∀ {vs ws : List V} {bs cs : List Bool}, ElAll K H vs bs → ElAll K H ws cs → ElAll K H (vs ++ ws) (bs ++ cs)
  | _, _, _, _, .nil, h => h
  | _, _, _, _, .cons h r, q => .cons h (r.append q)
theorem ElAll.names : ∀ (ns : List Dr), ElAll K H (ns.map nmV) (ns.map fun _ => true)
  | [] => .nil
  | d :: ns => .cons (.nm d) (ElAll.names ns)
end
/-- no tuple of distinct names -/
inductive WrN (K : PySem.W.Frag) (H : Hp) : V → Prop where
  | non : WrN K H .non
  | int (i : Int) : WrN K H (.int i)
  | bl (b : Bool) : WrN K H (.bl b)
  | str (s : Str) : WrN K H (.str s)
  | lst {a : Addr} {xs : List V} (h : SqL K H a xs) : WrN K H (.ref a)
  | dct {a : Addr} {kvs : List (Key × V)} (h : H a = some (.dK kvs)) : WrN K H (.ref a)
  | tup {a : Addr} {xs : List V} {bs : List Bool} (h : SqT K H a xs) (e : ElAll K H xs bs) (l : xs.length ≤ 1000) (f : bs.all id = false) : WrN K H (.ref a)
  | dup {a : Addr} {ns : List Dr} (h : SqT K H a (ns.map nmV)) (l : ns.length ≤ 1000) (f : ¬ ns.Nodup) : WrN K H (.ref a)
theorem WrN.ext {K : PySem.W.Frag} {H H' : Hp} {x : V} (h : WrN K H x) (k : Ext H H') : WrN K H' x := by
  cases h with
  | non => exact .non
  | int i => exact .int i
  | bl b => exact .bl b
  | str s => exact .str s
  | lst h => exact .lst (sqL_keep h fun o e => k _ o e)
  | dct h => exact .dct (k _ _ h)
  | tup h e l f => exact .tup (sqT_keep h fun o e => k _ o e) (e.ext k) l f
  | dup h l f => exact .dup (sqT_keep h fun o e => k _ o e) l f
/-- what is no tuple, a tuple with a wrong item, a tuple of names with one twice -/
theorem WrN.three {K : PySem.W.Frag} {H : Hp} {x : V} (h : WrN K H x) : (∃ t : String, TyX K H x (.type t) ∧ kitB t "tuple" = some false) ∨ (∃ (a : Addr) (xs : List V) (bs : List Bool), x = .ref a ∧ SqT K H a xs ∧ ElAll K H xs bs ∧ xs.length ≤ 1000 ∧ bs.all id = false) ∨
    (∃ (a : Addr) (ns : List Dr), x = .ref a ∧ SqT K H a (ns.map nmV) ∧ ns.length ≤ 1000 ∧ ¬ ns.Nodup) := by
  cases h with
  | non => exact .inl ⟨_, .base .non, by decide +kernel⟩
  | int i => exact .inl ⟨_, .base (.int i), by decide +kernel⟩
  | bl b => exact .inl ⟨_, .base (.bl b), by decide +kernel⟩
  | str s => exact .inl ⟨_, .base (.str s), by decide +kernel⟩
  | lst h => exact .inl ⟨_, sqL_ty h, by decide +kernel⟩
  | dct h => exact .inl ⟨_, .base (.dK h), by decide +kernel⟩
  | tup h e l f => exact .inr (.inl ⟨_, _, _, rfl, h, e, l, f⟩)
  | dup h l f => exact .inr (.inr ⟨_, _, rfl, h, l, f⟩)
def spIsNameE (K : PySem.W.Frag) : Sp := fun vs H Q _ => ∃ (v : V) (b : Bool), vs = [v] ∧ ElB K H v b ∧ Q (.bl b) H
def spAreNamesW (K : PySem.W.Frag) : Sp := fun vs H Q _ => ∃ x, vs = [x] ∧ WrN K H x ∧ ∀ H', Ext H H' → Q (.bl false) H'
def spFoldedW (K : PySem.W.Frag) (CN : Addr) : Sp := fun vs H _ E => ∃ (d : Addr) (x : V), vs = [.ref d, x] ∧ WrN K H x ∧ ∀ H', Ext H H' → E (.ref CN) none H'
section
variable {P : Program} {w : World} {K : PySem.W.Frag} {mg : Str → Option Value} {base : Heap}
theorem ok_isNameE {f : Addr} {fd : FuncData} (F : Fun K "_is_name" "_is_name" sIsName f fd) (T : Nms mg) (Cn : CstN K mg) : FnOk P w K mg base CX0 1 f fd ["value"] (spIsNameE K) := by
  refine F.ok scIsName (fun vs H Q E h => ?_) (fun cdv A outer s H vs Q E hr h => ?_)
  · obtain ⟨v, b, rfl, _⟩ := h
    rfl
  · obtain ⟨v, b, rfl, hv, q⟩ := h
    have nd := scIsName.nd
    obtain ⟨Nd, mN, hN⟩ := Cn.names
    refine ⟨_, pss_one (ps_ret (pe_and (pe_callB call_isi (by rfl) T.isi (by decide +kernel) (pa_cons (pv 0) (pa_cons (pe_bltn (v := .ty "str") (by rfl) T.str (by decide +kernel) rfl) pa_nil)))
      (pe_one (pe_cmpR op_in_seq (pv 0) (pe_glob (v := .ref Nd) rfl mN rfl) rfl)))), ?_⟩
    have fl : NMS.all flatV = true := by decide +kernel
    cases hv with
    | nm d =>
      refine ⟨_, rfl, _, _, _, _, true, rfl, .ty "str", .base (.str _), kit_ty (by decide +kernel), true, rfl, iteT ⟨_, rfl, Nd, _, rfl, .inr (hN H), rfl, fl, ?_⟩⟩
      have e : inV (nmV d) NMS = true := by cases d <;> decide +kernel
      show Q (.bl (if false = true then !inV (nmV d) NMS else inV (nmV d) NMS)) H
      rw [e]; exact q
    | str s h =>
      refine ⟨_, rfl, _, _, _, _, true, rfl, .ty "str", .base (.str _), kit_ty (by decide +kernel), true, rfl, iteT ⟨_, rfl, Nd, _, rfl, .inr (hN H), rfl, fl, ?_⟩⟩
      show Q (.bl (if false = true then !inV (.str s) NMS else inV (.str s) NMS)) H
      rw [h]; exact q
    | oth h n =>
      rcases h.no with ⟨t, ty, kb⟩ | ⟨l, rfl, _⟩
      · exact ⟨_, rfl, _, _, _, _, false, rfl, .ty "str", ty, kit_ty kb, false, rfl, iteF q⟩
      · exact absurd rfl (n _)
theorem ok_areNamesW {f : Addr} {fd : FuncData} (F : Fun K "_are_names" "_are_names" sAreNames f fd) (T : Nms mg) (G : Cl P w K mg base 1 "_is_name" (spIsNameE K)) : FnOk P w K mg base CX0 2 f fd ["value"] (spAreNamesW K) := by
  refine F.ok scAreNames (fun vs H Q E h => ?_) (fun cdv A outer s H vs Q E hr h => ?_)
  · obtain ⟨x, rfl, _⟩ := h
    rfl
  · obtain ⟨x, rfl, hx, q⟩ := h
    have nd := scAreNames.nd
    refine ⟨_, pss_cons (ps_if (pt_not (pt_val (pe_callB call_isi (by rfl) T.isi (by decide +kernel) (pa_cons (pv 0) (pa_cons (pe_bltn (v := .ty "tuple") (by rfl) T.tuple (by decide +kernel) rfl) pa_nil))))) (pss_one (ps_ret pe_bl)) pss_nil)
      (pss_cons (ps_if (pt_not (pt_val (pe_callB (cr_all rfl) (by rfl) T.all (by decide +kernel) (pa_cons (pe_lc (own := [("name", 1)]) (g := gName 1) (tt := tYes) rfl nd (pi_tup (pv 0)) (blkOk_by (N := ["value", "name"]) (sc := defScope sAreNames) (by decide +kernel)) (fun _ _ _ _ _ => pg_name (i := 1) nd rfl (Or.inl rfl)) (fun _ _ _ _ _ => pts_nil)
          (fun _ _ _ _ _ => pe_cl G hr (by decide) rfl (pa_cons (pv 1) pa_nil))) pa_nil)))) (pss_one (ps_ret pe_bl)) pss_nil)
      (pss_one (ps_ret (pe_cmpR op_eq (pe_lenSetT rfl (by rfl) T.len (by rfl) T.set (pv 0)) (pe_callB call_len_seq (by rfl) T.len PySem.boot_len (pa_cons (pv 0) pa_nil)) (nomark _))))), ?_⟩
    rcases hx.three with ⟨t, ty, kb⟩ | ⟨a, xs, bs, rfl, ha, he, hl, hf⟩ | ⟨a, ns, rfl, ha, hl, hf⟩
    · exact ⟨_, rfl, _, _, _, _, false, rfl, .ty "tuple", ty, kit_ty kb, false, rfl, iteT (q H .refl)⟩
    · refine ⟨_, rfl, _, _, _, _, true, rfl, .ty "tuple", sqT_ty ha, kit_ty (by decide +kernel), true, rfl, iteF ?_⟩
      have el := he.len
      refine ⟨_, rfl, a, rfl, ⟨_, ha⟩, fun D hD => ?_⟩
      refine lc_it (walk_tup (xs := xs)) (fun i H' => H' D = some (.lst ((bs.take i).map V.bl)) ∧ Ext H H') ⟨upd_same, Ext.refl.new hD⟩ (fun i H' _ z => sqT_keep ha fun o e => z.2 a o e) ?_ ?_
      · rintro i x H2 H3 hi ⟨h2, k2⟩ ⟨rfl, hx⟩
        obtain ⟨b, eb, hb⟩ := he.get hx
        refine ⟨rfl, _, rfl, x, b, rfl, hb.ext k2, _, h2, ?_, ?_, k2.new hD⟩
        · rw [List.length_map, List.length_take, sizeLine_eq]; omega
        · rw [upd_same, List.take_add_one, eb, List.map_append]; rfl
      rintro H2 ⟨h2, k2⟩
      rw [el, List.take_length] at h2
      refine ⟨D, _, rfl, SqL.of h2, ?_⟩
      rw [hf]
      exact ⟨false, rfl, iteT (q H2 k2)⟩
    · refine ⟨_, rfl, _, _, _, _, true, rfl, .ty "tuple", sqT_ty ha, kit_ty (by decide +kernel), true, rfl, iteF ?_⟩
      refine ⟨_, rfl, a, rfl, ⟨_, ha⟩, fun D hD => ?_⟩
      refine lc_it (walk_tup (xs := ns.map nmV)) (fun i H' => H' D = some (.lst ((List.replicate i true).map V.bl)) ∧ Ext H H') ⟨upd_same, Ext.refl.new hD⟩ (fun i H' _ z => sqT_keep ha fun o e => z.2 a o e) ?_ ?_
      · rintro i x H2 H3 hi ⟨h2, k2⟩ ⟨rfl, hx⟩
        rw [List.getElem?_map] at hx
        obtain ⟨d, hd, rfl⟩ := Option.map_eq_some_iff.mp hx
        have hi' : i < ns.length := (List.getElem?_eq_some_iff.mp hd).1
        refine ⟨rfl, _, rfl, _, true, rfl, .nm d, _, h2, ?_, ?_, k2.new hD⟩
        · rw [List.length_map, List.length_replicate, sizeLine_eq]; omega
        · rw [upd_same, List.replicate_succ', List.map_append]; rfl
      rintro H2 ⟨h2, k2⟩
      refine ⟨D, _, rfl, SqL.of h2, ?_⟩
      have e : (List.replicate (ns.map nmV).length true).all id = true := by rw [List.all_replicate]; simp
      rw [e]
      refine ⟨true, rfl, iteF ?_⟩
      have ha2 := sqT_keep ha fun o e => k2 a o e
      have e2 : (ns.map Dr.nm).map V.str = ns.map nmV := by rw [List.map_map]; rfl
      refine ⟨_, rfl, a, ns.map Dr.nm, rfl, by rw [e2]; exact ha2, by rw [List.length_map]; exact hl, ?_⟩
      refine ⟨_, rfl, a, _, rfl, .inr ha2, rfl, ?_⟩
      have key : decide (V.int ((metS (ns.map Dr.nm) (ns.map Dr.nm).length).length : Nat) = V.int ((ns.map nmV).length : Nat)) = false := by
        refine decide_eq_false fun z => hf ?_
        injection z with z
        have z' : (metS (ns.map Dr.nm) (ns.map Dr.nm).length).length = (ns.map Dr.nm).length := by
          have e3 : (ns.map nmV).length = (ns.map Dr.nm).length := by rw [List.length_map, List.length_map]
          rw [e3] at z; omega
        have y := (metS_full (ns.map Dr.nm) _ (Nat.le_refl _)).mp z'
        rw [List.take_length] at y
        exact nms_nodup.mp y
      rw [key]
      exact q H2 k2
theorem ok_foldedW {f Cf CD CN : Addr} {fd : FuncData} (F : Fun K "folded" "Doors.folded" sDoorsFolded f fd) (Y : Drs P w K mg base CD) (N : ExV K mg "NoDoor" CN) (G : Cl P w K mg base 2 "_are_names" (spAreNamesW K)) : FnOk P w K mg base (L2.CX P w) 3 f fd ["self", "names"] (spFoldedW K CN) := by
  refine F.okX scDoorsFolded (fun vs H Q E h => ?_) (fun cdv A outer s H vs Q E hr h => ?_)
  · obtain ⟨d, x, rfl, _⟩ := h
    rfl
  · obtain ⟨d, x, rfl, hx, q⟩ := h
    have nd := scDoorsFolded.nd
    obtain ⟨fj, fdj, MD, FJ, bJ⟩ := Y.made
    refine ⟨_, pss_cons (ps_if (pt_not (pt_val (pe_cl G hr (by decide) rfl (pa_cons (pv 1) pa_nil)))) (pss_one (ps_raise rfl (takes_of rfl rfl rfl rfl) (pmk_own PySem.F.excBase_ValueError N.x N.g N.k (raises_own N.b N.t) (by exact rfl)))) pss_nil)
      (pss_cons (ps_set (i := 2) nd rfl (Or.inl rfl) (pe_ifExp (pt_cmpR op_in_seq pe_str (pv 1) rfl) (pe_fld (pv 0) rfl) (pe_fld (pv 0) rfl)))
      (pss_cons (ps_set (i := 3) nd rfl (Or.inl rfl) (pe_ifExp (pt_cmpR op_in_seq pe_str (pv 1) rfl) (pe_fld (pv 0) rfl) (pe_fld (pv 0) rfl)))
      (pss_cons (ps_set (i := 4) nd rfl (Or.inl rfl) (pe_ifExp (pt_cmpR op_in_seq pe_str (pv 1) rfl) (pe_fld (pv 0) rfl) (pe_fld (pv 0) rfl)))
      (pss_one (ps_ret (pe_make MD FJ (hr.mono (by decide)) rfl Y.z.mgC bJ .nil pass0 (pa_cons (pv 2) (pa_cons (pv 3) (pa_cons (pv 4) (pa_cons (pe_fld (pv 0) rfl) pa_nil)))))))))), ?_⟩
    exact ⟨_, rfl, x, rfl, hx, fun H2 k2 => ⟨_, rfl, iteT (q H2 k2)⟩⟩
end
end Pd

set_option maxHeartbeats 4000000
namespace Pd
open PySem PySem.Spec PyProof.Rows L2 SX
/-! ### folded as a method, and wished -/
structure DrF (P : Program) (w : World) (K : PySem.W.Frag) (mg : Str → Option Value) (base : Heap) (C CD : Addr) : Prop where
  folded : ∃ (g : Addr) (fd : FuncData), Meth K CD "folded" g ∧ FnOk P w K mg base CX0 3 g fd ["self", "names"] (spFolded K C CD) ∧ Binds K fd ["self", "names"] []
def spWished (K : PySem.W.Frag) (C CD : Addr) : Sp := fun vs H Q _ => ∃ (d l : Addr) (ps : List Addr) (ds : List Deed) (o1 o2 o3 o4 r1 r2 r3 r4 : Addr) (s1 s2 s3 s4 : List Stp), vs = [.ref d, .ref l] ∧ DrAt K C CD H d o1 o2 o3 o4 r1 r2 r3 r4 s1 s2 s3 s4 ∧
  H l = some (.lst (ps.map V.ref)) ∧ DAl K H ps ds ∧ ds.length ≤ 1000 ∧ ∀ t H', H t = none → H' t = some (.lst ((walkS (dfs s4 s4 s4) noneS ds).map V.bl)) → Ext H H' → Q (.ref t) H'
theorem pk_all {α : Type} {ns : List Dr} (h : ∀ d, d ∈ ns) (d : Dr) (w a : α) : pk ns d w a = w := if_pos (h d)
section
variable {P : Program} {w : World} {K : PySem.W.Frag} {mg : Str → Option Value} {base : Heap}
theorem ok_wished {f Cf CD : Addr} {fd : FuncData} (F : Fun K "wished" "wished" sWished f fd) (Cn : CstN K mg) (Y : Drs P w K mg base CD) (YF : DrF P w K mg base Cf CD) (G : Cl P w K mg base 5 "answers" (spAnswers K Cf CD)) : FnOk P w K mg base CX0 6 f fd ["doors", "deeds"] (spWished K Cf CD) := by
  refine F.ok scWished (fun vs H Q E h => ?_) (fun cdv A outer s H vs Q E hr h => ?_)
  · obtain ⟨d, l, ps, ds, o1, o2, o3, o4, r1, r2, r3, r4, s1, s2, s3, s4, rfl, _⟩ := h
    rfl
  · obtain ⟨d, l, ps, ds, o1, o2, o3, o4, r1, r2, r3, r4, s1, s2, s3, s4, rfl, hD, hl, al, hlen, q⟩ := h
    have nd := scWished.nd
    obtain ⟨g, fd', m, FF, bF⟩ := YF.folded
    obtain ⟨Nd, mN, hN⟩ := Cn.names
    refine ⟨_, pss_one (ps_ret (pe_cl G hr (by decide) rfl (pa_cons (pe_meth (pv 0) Y.z.cl m FF (hr.mono (by decide)) bF .nil pass0 (pa_cons (pe_glob (v := .ref Nd) rfl mN rfl) pa_nil)) (pa_cons (pv 1) pa_nil)))), ?_⟩
    obtain ⟨dx, e⟩ := hD.ins
    have all : ∀ e : Dr, e ∈ [Dr.put, Dr.find, Dr.strike] := fun e => by cases e <;> decide
    refine ⟨_, rfl, d, dx, _, rfl, e, rfl, d, Nd, [.put, .find, .strike], o1, o2, o3, o4, r1, r2, r3, r4, s1, s2, s3, s4, rfl, hN H, by decide, by decide, hD, fun x H1 hx D1 k1 => ?_⟩
    rw [pk_all all, pk_all all, pk_all all, pk_all all, pk_all all, pk_all all, pk_all all, pk_all all, pk_all all] at D1
    refine ⟨_, rfl, x, l, ps, ds, _, _, _, _, _, _, _, _, s4, s4, s4, s4, rfl, D1, k1 l _ hl, al.ext k1, hlen, fun t H2 nt ht k2 => ?_⟩
    refine q t H2 ?_ ht (k1.trans k2)
    cases z : H t with
    | none => rfl
    | some o => rw [k1 t o z] at nt; cases nt
end
end Pd

namespace Pd
open PySem PySem.Spec PyProof.Rows L2 PySem.OEX
/-! ### D.__init__(self, ..) in an own error's __init__, D an own error without one -/
section
variable {X : Cx} {e : Expr} {es : List Expr} {ta : TA} {p1 p2 pos : Pos} {D : Addr} {x : Str}
theorem pe_oeinit {pl : Sem Bool} (hg : Gl X x) (hm : X.mg x = some (.ref D)) (rg : PySem.W.specialIn X.K (.ref D) "__getattribute__" = some (some (.builtin "type.__getattribute__"))) (rd : PySem.W.readsIn X.K D (.type "type") = true)
    (vV : PySem.W.findCls X.K (.ref D) (.type "type") "__init__" = some (.val (.builtin "ValueError.__init__"))) (ha : PA X (e :: es) ta)
    (hc : eval (.Call (.Attribute (.Name x p1) "__init__" p2) (e :: es) [] pos) X.env = (do
      let ov ← eval (.Name x p1) X.env
      standAt p2.atName
      let (f, first) ← holding [ov] (getMethod ov "__init__" pl)
      callWith pos f first (backTo pos (starEach (e :: es) X.env)) (backToKw pos (keywordEach [] X.env))) := by rfl)
    (hd : (x == ("__debug__" : Str)) = false := by decide)
    (he : starEach (e :: es) X.env = (false, eval e X.env) :: starEach es X.env := by rfl) (hpl : (backTo pos (starEach es X.env)).any (·.1) = false := by rfl) :
    PE X (.Call (.Attribute (.Name x p1) "__init__" p2) (e :: es) [] pos) (tVeI X.K ta) := by
  refine ⟨fun pins s σ H Q I h => ?_⟩
  refine PySem.W.methodCall_KW (ld_glob I hg hm ?_ hd) hc
  refine PySem.W.method_cls I.kIn rg (PySem.W.cls_value I.kIn rd vV (by decide +kernel) ?_)
  have I := I.tok (s.toks + 1)
  show wpAny _ _ (callWith pos (Value.builtin "ValueError.__init__") [] (backTo pos (starEach (e :: es) X.env)) []) _ _ _
  refine PyProof.Rows.callWith_method1 (thn (ha.run pos pins _ σ H _ I h) fun us s1 ⟨vs, H1, I1, r1, a, C, ws, ev, hl, T, ea, q⟩ => ?_) he hpl
  subst ev
  cases r1 with
  | @cons _ u0 _ ur ra rw' =>
    obtain rfl : u0 = Value.ref a := ra
    have hlen : ur.length ≤ sizeLine := by
      rw [← Paired.length rw', sizeLine_eq]
      omega
    exact oinit_ok T I1 ea hlen fun s' J => ⟨.non, H1, J, rfl, q⟩
end
end Pd

set_option maxHeartbeats 4000000
namespace Pd
open PySem PySem.Spec PyProof.Rows L2 PySem.OEX
/-- NoStep.__init__: the new error has the field index -/
def spNsInit (K : PySem.W.Frag) (C : Addr) : Sp := fun vs H Q _ => ∃ (a : Addr) (y : V), vs = [.ref a, y] ∧ H a = some (exo a C none) ∧
  ∀ d, H d = none → d ≠ a → Q .non (upd (upd H d (exd d [("index", y)])) a (exo a C (some d)))
/-- what the class NoStep and its base say -/
structure NsC (K : PySem.W.Frag) (mg : Str → Option Value) (C D : Addr) : Prop where
  o : OexC K C
  no : PySem.W.findIn K (.ref C) "index" = some none
  g : mg "PlainError" = some (.ref D)
  rg : PySem.W.specialIn K (.ref D) "__getattribute__" = some (some (.builtin "type.__getattribute__"))
  rd : PySem.W.readsIn K D (.type "type") = true
  vV : PySem.W.findCls K (.ref D) (.type "type") "__init__" = some (.val (.builtin "ValueError.__init__"))
section
variable {P : Program} {w : World} {K : PySem.W.Frag} {mg : Str → Option Value} {base : Heap}
theorem ok_nsInit {f C D : Addr} {fd : FuncData} (F : Fun K "__init__" "NoStep.__init__" sNostepInit f fd) (Z : NsC K mg C D) : FnOk P w K mg base CX0 1 f fd ["self", "index"] (spNsInit K C) := by
  refine F.ok scNostepInit (fun vs H Q E h => ?_) (fun cdv A outer s H vs Q E hr h => ?_)
  · obtain ⟨a, y, rfl, _⟩ := h
    rfl
  · obtain ⟨a, y, rfl, e, q⟩ := h
    refine ⟨_, pss_cons (ps_expr (pe_oeinit (x := "PlainError") rfl Z.g Z.rg Z.rd Z.vV (pa_cons (pv 0) (pa_cons pe_str pa_nil))))
      (pss_one (ps_ost (pv 0) (pv 1))), ?_⟩
    refine ⟨_, rfl, a, C, _, rfl, by show 1 ≤ 1000; decide, Z.o, e, ?_⟩
    exact ⟨_, rfl, _, rfl, a, C, rfl, Z.o, Z.no, .inl ⟨e, fun dx hd n => q dx hd n⟩⟩
end
end Pd

set_option maxHeartbeats 4000000
namespace Pd
open PySem PySem.Spec PyProof.Rows L2
/-- isinstance(e, (c1, c2, ..)), e the exception that the suite holds -/
def rIsET (K : PySem.W.Frag) (D a : Addr) : List V → Hp → VK → Prop := fun xs H Q => ∃ (tp : Addr) (cs : List V) (us : List Value) (b : Bool), xs = [.ref a, .ref tp] ∧ H tp = some (.tup cs) ∧ Paired ClsV cs us ∧ PySem.W.kitAny K (.ref D) us = some b ∧ Q (.bl b) H
theorem call_isET {X : Cx} {a D : Addr} {oe : Obj} {pn : List (Addr × Obj)} (C : ExcC X.K D) (hz : Zc (.ref D) none oe) (hf : ∃ vs, oe.data = .fields vs) : CallR (X.suite a ((a, oe) :: pn)) (.builtin "isinstance") (rIsET X.K D a) := by
  intro pins s σ H xs us Q I r h
  obtain ⟨tp, cs, ws, b, rfl, hT, k, e, q⟩ := h
  obtain ⟨u1, u2, rfl, r1, r2⟩ := vals2 r
  cases (show u1 = Value.ref a from r1)
  cases (show u2 = Value.ref tp from r2)
  obtain ⟨_, its, rv, o, h1, h2, n, h3⟩ := (show ObjOk X.prog X.w H s.heap tp (.tup cs) from I.hok tp _ hT)
  have e3 := ClsV.all k rv
  subst e3
  obtain ⟨oc, od, dt, sl⟩ := o
  simp only at h2 h3
  subst h2 h3
  obtain ⟨hget, _⟩ := I.pin (a, oe) (List.mem_append.mpr (.inl List.mem_cons_self))
  obtain ⟨vs, hv⟩ := hf
  have J : PySem.W.InstAt s.heap a oe D none := by
    obtain ⟨oc, od, oda, osl⟩ := oe
    obtain ⟨z1, z2⟩ := hz
    dsimp only at z1 z2 hv
    subst z1 z2 hv
    exact ⟨hget, rfl, rfl, trivial⟩
  exact PySem.W.kia_tup (PySem.W.handS_kitx_exc C.hg C.hk C.hs C.hd C.ha C.hn C.ht C.hm) I.kIn J h1 e (fun z => nomatch z) fun tk => ⟨.bl b, H, I.kept (t' := tk) fun _ _ z => z, rfl, q⟩
/-- none of some classes -/
theorem kitAny_no {K : PySem.W.Frag} {D : Value} : ∀ {us : List Value}, (∀ u ∈ us, PySem.W.kitOne K D u = some false) → PySem.W.kitAny K D us = some false
  | [], _ => rfl
  | u :: us, h => by
    unfold PySem.W.kitAny
    rw [h u List.mem_cons_self]
    exact kitAny_no fun v hv => h v (List.mem_cons_of_mem _ hv)
/-- o.m(e, ..) of an own class where it may raise, in a try -/
def tMethX (C : Addr) (m : Str) (sp : Sp) (E : L2.St → XK) (ta : TE) (t : TA) : TE := fun σ H Q => ta σ H fun x H1 => ∃ (a dx : Addr) (fs : List (Str × V)), x = .ref a ∧ H1 a = some (.ins C dx fs) ∧ fs.lookup m = none ∧ t σ H1 fun vs H2 => sp (.ref a :: vs) H2 Q (E σ)
theorem pe_methX {X : Cx} {CX : CXT} {k : Nat} {C g : Addr} {fd : FuncData} {ps : List Str} {m : Str} {sp : Sp} {E : L2.St → XK} {o e : Expr} {es : List Expr} {ta : TE} {t : TA} {apos pos : Pos} {pl : Sem Bool} (he : PE X o ta) (c : Cls X.K C) (hm : Meth X.K C m g)
    (F : FnOk X.prog X.w X.K X.mg X.base CX k g fd ps sp) (hr : Room k X.A) (hb : Binds X.K fd ps []) (hx : ∀ σ, PassesAt CX X σ (E σ)) (ha : PA X (e :: es) t) (hst : starEach (e :: es) X.env = (false, eval e X.env) :: starEach es X.env := by rfl)
    (hpl : (backTo pos (starEach es X.env)).any (·.1) = false := by rfl)
    (ht : eval (.Call (.Attribute o m apos) (e :: es) [] pos) X.env = (do let ov ← eval o X.env; standAt apos.atName; let (f, first) ← holding [ov] (getMethod ov m pl); callWith pos f first (backTo pos (starEach (e :: es) X.env)) (backToKw pos (keywordEach [] X.env))) := by rfl) :
    PE X (.Call (.Attribute o m apos) (e :: es) [] pos) (tMethX C m sp E ta t) := by
  constructor
  intro pins s σ H Q I h
  refine PySem.W.methodCall_KW (pl := pl) (thn (he.run pins s σ H _ I h) ?_) ht
  rintro u s1 ⟨x, H1, I1, rx, a, dx, fs, rfl, ea, l, q⟩
  cases (show u = Value.ref a from rx)
  refine getmeth_ok I1 ea c hm l (PySem.W.callWith_K (first := [.ref a]) (h₀ := X.base) I.ok.mod.kin hm.kp (thn (ha.run pos pins s1 σ H1 _ I1 q) ?_) hst hpl)
  rintro us s2 ⟨vs, H2, I2, r, q2⟩
  exact ⟨I2.kIn, run_fnS (us := .ref a :: us) (vs := .ref a :: vs) F hr hb (hx σ) I2 (.cons rfl r) q2⟩
end Pd

set_option maxHeartbeats 4000000
namespace Pd
open PySem PySem.Spec PyProof.Rows L2
/-! ### isinstance of a caught error that has a field -/
theorem excD_at {X : Cx} {a D dd : Addr} {oe : Obj} {pn pins : List (Addr × Obj)} {σ : L2.St} {H : Hp} {s : Shared} {fs : List (Str × V)} (hz : Zc (.ref D) (some dd) oe) (hf : ∃ vs, oe.data = .fields vs) (I : Inv (X.suite a ((a, oe) :: pn)) pins σ H s) (hd : H dd = some (.xd fs)) :
    ∃ od, PySem.W.InstAt s.heap a oe D (some od) := by
  obtain ⟨ha, _⟩ := I.pin (a, oe) (List.mem_append_left _ List.mem_cons_self)
  obtain ⟨vs, hv⟩ := hf
  obtain ⟨mA, hns, hr⟩ := (show ObjOk X.prog X.w H s.heap dd (.xd fs) from I.hok dd _ hd)
  obtain ⟨od, ho, hl⟩ := lookIn_ns hns
  exact ⟨od, ha, hz.1, by unfold PySem.W.notCls; rw [hv] <;> rfl, by rw [hz.2]; exact ho⟩
/-- isinstance(e, c) -/
def rIsD (K : PySem.W.Frag) (D a dd : Addr) : List V → Hp → VK → Prop := fun xs H Q => ∃ (c : V) (cv : Value) (b : Bool) (fs : List (Str × V)), xs = [.ref a, c] ∧ H dd = some (.xd fs) ∧ (∀ u, RelV c u → u = cv) ∧ PySem.W.kitOne K (.ref D) cv = some b ∧ Q (.bl b) H
theorem call_isD {X : Cx} {a D dd : Addr} {oe : Obj} {pn : List (Addr × Obj)} (C : ExcC X.K D) (hz : Zc (.ref D) (some dd) oe) (hf : ∃ vs, oe.data = .fields vs) : CallR (X.suite a ((a, oe) :: pn)) (.builtin "isinstance") (rIsD X.K D a dd) := by
  intro pins s σ H xs us Q I r h
  obtain ⟨c, cv, b, fs, rfl, hd, hcv, e, q⟩ := h
  obtain ⟨u1, u2, rfl, r1, r2⟩ := vals2 r
  cases (show u1 = Value.ref a from r1)
  obtain rfl := hcv _ r2
  obtain ⟨od, J⟩ := excD_at hz hf I hd
  have cl : (PySem.W.clsIn X.K D).isSome = true := by
    obtain ⟨cd, hc, _⟩ := PySem.W.any_some C.hd
    rw [hc]; rfl
  exact PySem.W.kia_one (PySem.W.kitx_exc cl C.hg C.hk C.hs C.ha C.hn C.ht C.hm) I.kIn J e (fun z => nomatch z) fun tk => ⟨.bl b, H, I.kept (t' := tk) fun _ _ z => z, rfl, q⟩
/-- isinstance(e, (c1, c2, ..)) -/
def rIsDT (K : PySem.W.Frag) (D a dd : Addr) : List V → Hp → VK → Prop := fun xs H Q => ∃ (tp : Addr) (cs : List V) (us : List Value) (b : Bool) (fs : List (Str × V)), xs = [.ref a, .ref tp] ∧ H dd = some (.xd fs) ∧ H tp = some (.tup cs) ∧ Paired ClsV cs us ∧ PySem.W.kitAny K (.ref D) us = some b ∧ Q (.bl b) H
theorem call_isDT {X : Cx} {a D dd : Addr} {oe : Obj} {pn : List (Addr × Obj)} (C : ExcC X.K D) (hz : Zc (.ref D) (some dd) oe) (hf : ∃ vs, oe.data = .fields vs) : CallR (X.suite a ((a, oe) :: pn)) (.builtin "isinstance") (rIsDT X.K D a dd) := by
  intro pins s σ H xs us Q I r h
  obtain ⟨tp, cs, ws, b, fs, rfl, hd, hT, k, e, q⟩ := h
  obtain ⟨u1, u2, rfl, r1, r2⟩ := vals2 r
  cases (show u1 = Value.ref a from r1)
  cases (show u2 = Value.ref tp from r2)
  obtain ⟨_, its, rv, o, h1, h2, n, h3⟩ := (show ObjOk X.prog X.w H s.heap tp (.tup cs) from I.hok tp _ hT)
  have e3 := ClsV.all k rv
  subst e3
  obtain ⟨oc, od', dt, sl⟩ := o
  simp only at h2 h3
  subst h2 h3
  obtain ⟨od, J⟩ := excD_at hz hf I hd
  have cl : (PySem.W.clsIn X.K D).isSome = true := by
    obtain ⟨cd, hc, _⟩ := PySem.W.any_some C.hd
    rw [hc]; rfl
  exact PySem.W.kia_tup (PySem.W.kitx_exc cl C.hg C.hk C.hs C.ha C.hn C.ht C.hm) I.kIn J h1 e (fun z => nomatch z) fun tk => ⟨.bl b, H, I.kept (t' := tk) fun _ _ z => z, rfl, q⟩
/-! ### f(k = v, ..) where it may raise, in a try -/
def tCallKX (m : Nat) (sp : Sp) (gV : List V → List V → List V) (E : L2.St → XK) (tk : TA) : TE := fun σ H Q => tk σ H fun zs H2 => zs.length = m ∧ sp (gV [] zs) H2 Q (E σ)
theorem pe_callKX {X : Cx} {CX : CXT} {k : Nat} {f : Addr} {fd : FuncData} {ps ks : List Str} {sp : Sp} {E : L2.St → XK} {x : Str} {p pos : Pos} {kws : List Keyword} {tk : TA} {g : List Value → List Value → List Value} {gV : List V → List V → List V}
    (F : FnOk X.prog X.w X.K X.mg X.base CX k f fd ps sp) (hr : Room k X.A) (hg : Gl X x) (hm : X.mg x = some (.ref f)) (hk : PySem.W.keepIn X.K (.ref f) = true) (hb : KBn X.K fd ps 0 ks g gV) (hx : ∀ σ, PassesAt CX X σ (E σ)) (hkw : PK X kws tk)
    (hall : (backToKw pos (keywordEach kws X.env)).all (·.1.isSome) = true := by rfl) (hks : (backToKw pos (keywordEach kws X.env)).filterMap (·.1) = ks := by rfl) (hdb : (x == ("__debug__" : Str)) = false := by decide)
    (hpl : ((backTo pos (starEach [] X.env)).any (·.1) || (backToKw pos (keywordEach kws X.env)).any (·.1.isNone)) = false := by rfl) :
    PE X (.Call (.Name x p) [] kws pos) (tCallKX ks.length sp gV E tk) := by
  constructor
  intro pins s σ H Q I h
  refine wpAny_Call_Name_kw (ld_glob I hg hm ?_ hdb)
  refine PySem.W.callWith_KW0 (h₀ := X.base) I.ok.mod.kin hk hall ?_ hpl
  refine thn (hkw.run pos pins s σ H _ I h) fun ws s2 ⟨zs, H2, I2, rz, l2, q2⟩ => ⟨I2.kIn, ?_⟩
  rw [hks]
  have r2 := hb.rel (.nil : Vals [] []) rz
  refine wpAny_call (codeAny_mono (F.run X.A X.stack s2 H2 ⟨[], ks.zip ws⟩ (g [] ws) (gV [] zs) Q (E σ) hr I2.env0 (hb.to s2 [] ws I2.kIn rfl (rz.length.symm.trans l2)) r2 q2) fun r s' hq => ?_)
  cases r with
  | error e => exact hx σ pins H2 s2 e s' I2 hq
  | ok fl =>
    cases fl with
    | ret u => exact I2.after hq
    | next => exact False.elim hq
    | brk => exact False.elim hq
    | cont => exact False.elim hq
/-! ### x != x: a list and its copy, one tuple, one empty dict, plain values -/
/-- an item that is seen to be equal to itself -/
def selfB : V → Bool
  | .non => true | .bl _ => true | .int _ => true | .str _ => true | .ref _ => true
  | _ => false
theorem eq_self {A : Around} {s : Shared} {x : V} {u v : Value} (h : selfB x = true) (r1 : RelV x u) (r2 : RelV x v) : SeqAt.EqAt A s u v true := by
  cases x with
  | non => cases r1; cases r2; exact SeqAt.EqAt.same _
  | bl b => cases r1; cases r2; exact SeqAt.EqAt.same _
  | int i =>
    obtain ⟨t, rfl⟩ := r1
    obtain ⟨t', rfl⟩ := r2
    have z := SeqAt.EqAt.int_int (A := A) (s := s) i t i t'
    rwa [beq_self_eq_true] at z
  | str y =>
    obtain ⟨t, rfl⟩ := r1
    obtain ⟨t', rfl⟩ := r2
    have z := SeqAt.EqAt.str_str (A := A) (s := s) y t y t'
    rwa [beq_self_eq_true] at z
  | ref a => cases (show u = Value.ref a from r1); cases (show v = Value.ref a from r2); exact SeqAt.EqAt.same _
  | _ => exact absurd (show false = true from h) Bool.false_ne_true
theorem sub_dd : isSubtype (.type "dict") (.type "dict") = pure true := by rw [isSubtype_type]; kernel_rfl
theorem dictNe_self {a : Addr} {o : Obj} {ep : Nat} : Meets (Builtin.«dict.__ne__» ⟨[.ref a, .ref a], []⟩) (fun _ R s => (s.heap.get? a = some o ∧ o.cls = .type "dict" ∧ o.data = .dict #[] ep ∧ (a == sysModules) = false) ∧ R (.ok (.ret (.bool false))) s) :=
  .of_wp fun prog w A R s h => by
    obtain ⟨hp, g, d, tk, os⟩ := s
    obtain ⟨⟨ho, hc, hd, hs⟩, h⟩ := h
    obtain ⟨oc, od, dt, sl⟩ := o
    simp only at hc hd
    subst hc hd
    have hT : Shared.TypeIs ⟨hp, g, d, tk, os⟩ (.ref a) "dict" := ⟨_, ho, rfl⟩
    have sb := sub_dd
    wp_walk using wpAny_dictEntries ho rfl, TI.forIn_rng _ (fun rest b s' => rest = [] ∧ b = (none, ()) ∧ s' = ⟨hp, g, d, tk, os⟩) _
    case turn =>
      rintro x rest b s' ⟨hr, _⟩
      cases hr
    case fin =>
      rintro b s' ⟨_, rfl, rfl⟩
      wp_walk
      exact ⟨_, rfl, h⟩
    case h => exact ⟨rfl, rfl, rfl⟩
/-- x != y is False -/
def rNeSelf (K : PySem.W.Frag) : R2 := fun x y H Q => ((∃ (a b : Addr) (xs : List V), x = .ref a ∧ y = .ref b ∧ SqL K H a xs ∧ SqL K H b xs ∧ xs.all selfB = true) ∨ (∃ (a : Addr) (xs : List V), x = .ref a ∧ y = .ref a ∧ SqT K H a xs) ∨ (∃ a : Addr, x = .ref a ∧ y = .ref a ∧ H a = some (.dK [])) ∨
  (y = x ∧ (x = .non ∨ (∃ b, x = .bl b) ∨ (∃ i, x = .int i) ∨ ∃ z, x = .str z))) ∧ Q (.bl false) H
theorem op_neSelf {X : Cx} (hu : X.A.units + 64 < cLine) : OpR X (compareOp .NotEq) (rNeSelf X.K) := by
  intro pins s σ H x y v u Q I rx ry h
  obtain ⟨h, q⟩ := h
  have hu' : X.A.units < cLine := by omega
  have fin : ∀ {b : Bool}, b = false → EP X pins σ Q (.bool b) s := fun e => by subst e; exact ⟨.bl false, H, I, rfl, q⟩
  rcases h with ⟨a, b, xs, rfl, rfl, ha, hb, hs⟩ | ⟨a, xs, rfl, rfl, ha⟩ | ⟨a, rfl, rfl, ha⟩ | ⟨rfl, h⟩
  · cases (show v = Value.ref a from rx)
    cases (show u = Value.ref b from ry)
    obtain ⟨its, rv, pl, _⟩ := I.list ha
    obtain ⟨its2, rv2, pl2, _⟩ := I.list hb
    have l1 := rv.length
    have l2 := rv2.length
    refine SeqAt.RcNeAt.lists (e := fun _ => true) pl.isList pl2.isList (by simp only [List.size_toArray]; omega) hu' (fun j h1 h2 => ?_) X.prog X.w X.xe _ (fin (by simp))
    have hj : j < xs.length := by simp only [List.size_toArray] at h1; omega
    obtain ⟨u1, e1, r1⟩ := rv.get (List.getElem?_eq_getElem hj)
    obtain ⟨u2, e2, r2⟩ := rv2.get (List.getElem?_eq_getElem hj)
    have f1 : its.toArray[j] = u1 := by
      have z : its[j]? = some its.toArray[j] := by simp
      rw [e1] at z; exact (Option.some.inj z).symm
    have f2 : its2.toArray[j] = u2 := by
      have z : its2[j]? = some its2.toArray[j] := by simp
      rw [e2] at z; exact (Option.some.inj z).symm
    rw [f1, f2]
    exact eq_self (List.all_eq_true.mp hs _ (List.getElem_mem hj)) r1 r2
  · cases (show v = Value.ref a from rx)
    cases (show u = Value.ref a from ry)
    obtain ⟨its, rv, pl, _⟩ := I.tuple ha
    exact SeqAt.RcNeAt.tuples (e := fun _ => true) pl pl hu' (fun j h1 h2 => SeqAt.EqAt.same _) X.prog X.w X.xe _ (fin (by simp))
  · cases (show v = Value.ref a from rx)
    cases (show u = Value.ref a from ry)
    obtain ⟨_, hs, vs, kv, o, es, ep, ho, hx, hd, _, pr, _⟩ := (show ObjOk X.prog X.w H s.heap a (.dK []) from I.hok a _ ha)
    cases kv
    have es0 : es = #[] := by
      have z := pr.length
      simp at z
      exact z
    subst es0
    exact richCompare_meets_room (op := .NotEq) ⟨o, ho, hx.1⟩ ⟨o, ho, hx.1⟩ PySem.F.slot_dict_ne PySem.F.entry_dict_ne (PySem.F.args_dict_ne_2 _ _) (dictNe_self (o := o) (ep := ep)) ⟨⟨ho, hx.1, hd, hs⟩, (fun z => nomatch z), fin rfl⟩ hu'
  · rcases h with rfl | ⟨b, rfl⟩ | ⟨i, rfl⟩ | ⟨z, rfl⟩
    · cases rx; cases ry
      exact SeqAt.RcNeAt.none_none X.prog X.w X.xe _ (fin rfl)
    · cases rx; cases ry
      exact SeqAt.RcNeAt.bool_bool b b X.prog X.w X.xe _ (fin (by simp))
    · obtain ⟨t, rfl⟩ := rx
      obtain ⟨t', rfl⟩ := ry
      exact SeqAt.RcNeAt.int_int i t i t' X.prog X.w X.xe _ (fin (by simp))
    · obtain ⟨t, rfl⟩ := rx
      obtain ⟨t', rfl⟩ := ry
      exact SeqAt.RcNeAt.str_str z t z t' X.prog X.w X.xe _ (fin (by simp))
end Pd

set_option maxHeartbeats 4000000
namespace Pd
open PySem PySem.Spec PyProof.Rows L2 SX PySem.OEX
/-! ### NoDeed, with its index -/
section
variable {P : Program} {w : World} {K : PySem.W.Frag} {mg : Str → Option Value} {base : Heap}
theorem ok_ndInit {f C D : Addr} {fd : FuncData} (F : Fun K "__init__" "NoDeed.__init__" sNodeedInit f fd) (Z : NsC K mg C D) : FnOk P w K mg base CX0 1 f fd ["self", "index"] (spNsInit K C) := by
  refine F.ok scNodeedInit (fun vs H Q E h => ?_) (fun cdv A outer s H vs Q E hr h => ?_)
  · obtain ⟨a, y, rfl, _⟩ := h
    rfl
  · obtain ⟨a, y, rfl, e, q⟩ := h
    refine ⟨_, pss_cons (ps_expr (pe_oeinit (x := "PlainError") rfl Z.g Z.rg Z.rd Z.vV (pa_cons (pv 0) (pa_cons pe_str pa_nil))))
      (pss_one (ps_ost (pv 0) (pv 1))), ?_⟩
    refine ⟨_, rfl, a, C, _, rfl, by show 1 ≤ 1000; decide, Z.o, e, ?_⟩
    exact ⟨_, rfl, _, rfl, a, C, rfl, Z.o, Z.no, .inl ⟨e, fun dx hd n => q dx hd n⟩⟩
end
/-- what raising it asks -/
theorem nd_ask {K : PySem.W.Frag} {C : Addr} {H : Hp} {y : V} {Q : XK} (q : ∀ d H', H d = none → Ext H H' → H' d = some (.xd [("index", y)]) → Q (.ref C) (some d) H') :
    [y].length ≤ 1000 ∧ ∀ a, H a = none → spNsInit K C (.ref a :: ([y] ++ [])) (upd H a (exo a C none)) (fun v H2 => v = .non ∧ ∃ (d : Addr) (fs : List (Str × V)), H2 a = some (exo a C (some d)) ∧ H2 d = some (exd d fs) ∧ H d = none ∧ Q (.ref C) (some d) (upd (del H2 a) d (.xd fs))) (fun _ _ _ => False) := by
  refine ⟨by show 1 ≤ 1000; decide, fun a ha => ⟨a, y, rfl, upd_same, fun d hd n => ?_⟩⟩
  have hd' : H d = none := by rw [upd_ne n] at hd; exact hd
  refine ⟨rfl, d, [("index", y)], upd_same, by rw [upd_ne n]; exact upd_same, hd', q d _ hd' (fun b o e => ?_) upd_same⟩
  have nb : b ≠ d := ne_of_none e hd'
  have na : b ≠ a := ne_of_none e ha
  rw [upd_ne nb, del_ne na, upd_ne na, upd_ne nb, upd_ne na]
  exact e
/-- the class NoDeed as it is raised -/
structure NdR (P : Program) (w : World) (K : PySem.W.Frag) (mg : Str → Option Value) (base : Heap) (C : Addr) : Prop where
  o : OexC K C
  init : ∃ (g : Addr) (fd : FuncData), PySem.W.findIn K (.ref C) "__init__" = some (some (.ref g)) ∧ PySem.W.typeIn K (.ref g) = some (.type "function") ∧ FnOk P w K mg base CX0 1 g fd ["self", "index"] (spNsInit K C) ∧ Binds K fd ["self", "index"] []
  g : mg "NoDeed" = some (.ref C)
/-! ### what is no deed -/
inductive BadI (K : PySem.W.Frag) (H : Hp) : V → Prop where
  | non : BadI K H .non
  | int (i : Int) : BadI K H (.int i)
  | bl (b : Bool) : BadI K H (.bl b)
  | str (s : Str) : BadI K H (.str s)
  | lst {a : Addr} {xs : List V} (h : SqL K H a xs) : BadI K H (.ref a)
  | dct {a : Addr} {kvs : List (Key × V)} (h : H a = some (.dK kvs)) : BadI K H (.ref a)
  | len {a : Addr} {xs : List V} (h : SqT K H a xs) (n : xs.length ≠ 2) : BadI K H (.ref a)
  | nam {a : Addr} {u v : V} (h : SqT K H a [u, v]) (e : ElB K H u false) : BadI K H (.ref a)
  | txt {a : Addr} {d : Dr} {v : V} (h : SqT K H a [nmV d, v]) (e : Wr K H v) : BadI K H (.ref a)
theorem BadI.ext {K : PySem.W.Frag} {H H' : Hp} {x : V} (h : BadI K H x) (k : Ext H H') : BadI K H' x := by
  cases h with
  | non => exact .non
  | int i => exact .int i
  | bl b => exact .bl b
  | str s => exact .str s
  | lst h => exact .lst (sqL_keep h fun o e => k _ o e)
  | dct h => exact .dct (k _ _ h)
  | len h n => exact .len (sqT_keep h fun o e => k _ o e) n
  | nam h e => exact .nam (sqT_keep h fun o e => k _ o e) (e.ext k)
  | txt h e => exact .txt (sqT_keep h fun o e => k _ o e) (e.ext k)
theorem BadI.self {K : PySem.W.Frag} {H : Hp} {x : V} (h : BadI K H x) : selfB x = true := by
  cases h <;> rfl
/-- a value of another kind than a tuple, or a tuple -/
theorem BadI.four {K : PySem.W.Frag} {H : Hp} {x : V} (h : BadI K H x) : (∃ t : String, TyX K H x (.type t) ∧ kitB t "tuple" = some false) ∨ (∃ (a : Addr) (xs : List V), x = .ref a ∧ SqT K H a xs ∧ xs.length ≠ 2) ∨ (∃ (a : Addr) (u v : V), x = .ref a ∧ SqT K H a [u, v] ∧ ElB K H u false) ∨
    (∃ (a : Addr) (d : Dr) (v : V), x = .ref a ∧ SqT K H a [nmV d, v] ∧ Wr K H v) := by
  cases h with
  | non => exact .inl ⟨_, .base .non, by decide +kernel⟩
  | int i => exact .inl ⟨_, .base (.int i), by decide +kernel⟩
  | bl b => exact .inl ⟨_, .base (.bl b), by decide +kernel⟩
  | str s => exact .inl ⟨_, .base (.str s), by decide +kernel⟩
  | lst h => exact .inl ⟨_, sqL_ty h, by decide +kernel⟩
  | dct h => exact .inl ⟨_, .base (.dK h), by decide +kernel⟩
  | len h n => exact .inr (.inl ⟨_, _, rfl, h, n⟩)
  | nam h e => exact .inr (.inr (.inl ⟨_, _, _, rfl, h, e⟩))
  | txt h e => exact .inr (.inr (.inr ⟨_, _, _, rfl, h, e⟩))
/-- no list of deeds: the index of the first wrong item -/
inductive BadL (K : PySem.W.Frag) (H : Hp) : V → Nat → Prop where
  | kind {x : V} {t : String} (h : TyX K H x (.type t)) (n : kitB t "list" = some false) : BadL K H x 0
  | list {a : Addr} {ps : List Addr} {ds : List Deed} {v : V} {rest : List V} (h : SqL K H a (ps.map V.ref ++ v :: rest)) (al : DAl K H ps ds) (b : BadI K H v) : BadL K H (.ref a) ps.length
def spIsDeedO (K : PySem.W.Frag) : Sp := fun vs H Q E => spIsDeed K vs H Q E ∨ ∃ v, vs = [v] ∧ BadI K H v ∧ ∀ H', Ext H H' → Q (.bl false) H'
def spCheckW (K : PySem.W.Frag) (CN : Addr) : Sp := fun vs H _ E => ∃ (x : V) (i : Nat), vs = [x] ∧ BadL K H x i ∧ ∀ d H', H d = none → Ext H H' → H' d = some (.xd [("index", .int (i : Nat))]) → E (.ref CN) (some d) H'
def spRaiseW (K : PySem.W.Frag) (C CD CN : Addr) : Sp := fun vs H _ E => ∃ (d : Addr) (x : V) (i : Nat) (o1 o2 o3 o4 r1 r2 r3 r4 : Addr) (s1 s2 s3 s4 : List Stp), vs = [.ref d, x] ∧ DrAt K C CD H d o1 o2 o3 o4 r1 r2 r3 r4 s1 s2 s3 s4 ∧ (∀ H', Ext H H' → BadL K H' x i) ∧
  ∀ e H', H e = none → Ext H H' → H' e = some (.xd [("index", .int (i : Nat))]) → E (.ref CN) (some e) H'
section
variable {P : Program} {w : World} {K : PySem.W.Frag} {mg : Str → Option Value} {base : Heap}
theorem ok_isDeedO {f : Addr} {fd : FuncData} (F : Fun K "_is_deed" "_is_deed" sIsDeed f fd) (T : Nms mg) (G0 : Cl P w K mg base 1 "_is_name" spIsName) (G1 : Cl P w K mg base 1 "is_text" spIsText) (G : Cl P w K mg base 1 "_is_name" (spIsNameE K)) (G2 : Cl P w K mg base 1 "is_text" (spIsTextW K)) : FnOk P w K mg base CX0 2 f fd ["value"] (spIsDeedO K) := by
  refine fnOk_or (ok_isDeed F T G0 G1) (F.ok (sp := fun vs H Q _ => ∃ v, vs = [v] ∧ BadI K H v ∧ ∀ H', Ext H H' → Q (.bl false) H') scIsDeed (fun vs H Q E h => ?_) (fun cdv A outer s H vs Q E hr h => ?_)) fun vs H Q E h => h
  · obtain ⟨v, rfl, _⟩ := h
    rfl
  · obtain ⟨v, rfl, hv, q⟩ := h
    have nd := scIsDeed.nd
    refine ⟨_, pss_one (ps_ret (pe_and (pe_callB call_isi (by rfl) T.isi (by decide +kernel) (pa_cons (pv 0) (pa_cons (pe_bltn (v := .ty "tuple") (by rfl) T.tuple (by decide +kernel) rfl) pa_nil)))
      (pe_and (pe_cmpR op_eq (pe_callB call_len_seq (by rfl) T.len PySem.boot_len (pa_cons (pv 0) pa_nil)) pe_int (nomark _))
      (pe_and (pe_cl G hr (by decide) rfl (pa_cons (pe_ix ix_tup (pv 0) pe_int (fun _ _ => rfl)) pa_nil))
      (pe_one (pe_cl G2 hr (by decide) rfl (pa_cons (pe_ix ix_tup (pv 0) pe_int (fun _ _ => rfl)) pa_nil))))))), ?_⟩
    rcases hv.four with ⟨t, ty, kb⟩ | ⟨a, xs, rfl, h, n⟩ | ⟨a, u, v, rfl, h, e⟩ | ⟨a, d, v, rfl, h, e⟩
    · exact ⟨_, rfl, _, _, _, _, false, rfl, .ty "tuple", ty, kit_ty kb, false, rfl, iteF (q H .refl)⟩
    · refine ⟨_, rfl, _, _, _, _, true, rfl, .ty "tuple", sqT_ty h, kit_ty (by decide +kernel), true, rfl, iteT ?_⟩
      refine ⟨_, rfl, a, _, rfl, .inr h, rfl, false, ?_, iteF (q H .refl)⟩
      have z : decide (V.int (xs.length : Nat) = V.int 2) = false := decide_eq_false fun z => n (by injection z with z; omega)
      rw [z]
    · refine ⟨_, rfl, _, _, _, _, true, rfl, .ty "tuple", sqT_ty h, kit_ty (by decide +kernel), true, rfl, iteT ?_⟩
      refine ⟨_, rfl, a, _, rfl, .inr h, rfl, true, rfl, iteT ?_⟩
      exact ⟨_, rfl, a, _, 0, _, rfl, rfl, h, rfl, u, false, rfl, e, false, rfl, iteF (q H .refl)⟩
    · refine ⟨_, rfl, _, _, _, _, true, rfl, .ty "tuple", sqT_ty h, kit_ty (by decide +kernel), true, rfl, iteT ?_⟩
      refine ⟨_, rfl, a, _, rfl, .inr h, rfl, true, rfl, iteT ?_⟩
      refine ⟨_, rfl, a, _, 0, _, rfl, rfl, h, rfl, _, true, rfl, .nm d, true, rfl, iteT ?_⟩
      exact ⟨_, rfl, a, _, 1, _, rfl, rfl, h, rfl, v, rfl, e, fun H' k => q H' k⟩
theorem ok_checkW {f CN : Addr} {fd : FuncData} (F : Fun K "_check_deeds" "_check_deeds" sCheckDeeds f fd) (T : Nms mg) (ml : mg "list" = none) (N : NdR P w K mg base CN) (G : Cl P w K mg base 2 "_is_deed" (spIsDeedO K)) : FnOk P w K mg base (L2.CX P w) 3 f fd ["value"] (spCheckW K CN) := by
  refine F.okX scCheckDeeds (fun vs H Q E h => ?_) (fun cdv A outer s H vs Q E hr h => ?_)
  · obtain ⟨x, i, rfl, _⟩ := h
    rfl
  · obtain ⟨x, i0, rfl, hx, q⟩ := h
    have nd := scCheckDeeds.nd
    obtain ⟨gi, fdi, iC, tI, FI, bI⟩ := N.init
    refine ⟨_, pss_cons (ps_if (pt_not (pt_val (pe_callB call_isi (by rfl) T.isi (by decide +kernel) (pa_cons (pv 0) (pa_cons (pe_bltn (v := .ty "list") (by rfl) ml (by decide +kernel) rfl) pa_nil))))) (pss_one (ps_raise rfl (takes_of rfl rfl rfl rfl) (pmk_oex N.o iC tI FI (hr.mono (by decide)) bI .nil pass0 rfl N.g (pa_cons pe_int pa_nil)))) pss_nil)
      (pss_one (ps_for (passes_of rfl) rfl (pi_enum (by rfl) T.enum (pa_cons (pv 0) pa_nil)) (pg_tup (by rfl) (pgs_cons (pg_name (i := 1) nd rfl (Or.inl rfl)) (pgs_cons (pg_name (i := 2) nd rfl (Or.inl rfl)) pgs_nil)))
        (pss_one (ps_if (pt_not (pt_val (pe_cl G hr (by decide) rfl (pa_cons (pv 2) pa_nil)))) (pss_one (ps_raise rfl (takes_of rfl rfl rfl rfl) (pmk_oex N.o iC tI FI (hr.mono (by decide)) bI .nil pass0 rfl N.g (pa_cons (pv 1) pa_nil)))) pss_nil)))), ?_⟩
    cases hx with
    | @kind x t ty kb => exact ⟨_, rfl, _, _, _, _, false, rfl, .ty "list", ty, kit_ty kb, false, rfl, iteT (nd_ask fun d H' hd k e => q d H' hd k e)⟩
    | @list a ps ds v rest h al b =>
      refine ⟨_, rfl, _, _, _, _, true, rfl, .ty "list", sqL_ty h, kit_ty (by decide +kernel), true, rfl, iteF ?_⟩
      refine ⟨_, rfl, a, _, rfl, h, for_it (walk_enum (xs := ps.map V.ref ++ v :: rest)) (fun i σ H' => ∃ u w, σ = [some (.ref a), u, w] ∧ Ext H H' ∧ i ≤ ps.length) ⟨none, none, rfl, .refl, Nat.zero_le _⟩ (fun i σ H' _ p => by
        obtain ⟨u, w, _, k, _⟩ := p
        exact sqL_keep h fun o e => k a o e) ?_ ?_⟩
      · rintro i x σ H2 H3 hi ⟨u, w', rfl, k2, hle⟩ ⟨Ta, x1, y1, rfl, hT, rfl, e1, e2⟩
        obtain rfl := Option.some.inj e1
        replace e2 : (ps.map V.ref ++ v :: rest)[i]? = some y1 := e2
        have k3 : Ext H (L2.upd H2 Ta (.tup [V.int (i : Nat), y1])) := k2.new' hT
        refine ⟨Ta, _, rfl, SqT.of upd_same, rfl, _, _, rfl, _, _, rfl, rfl, ?_⟩
        by_cases hlt : i < ps.length
        · rw [List.getElem?_append_left (by rw [List.length_map]; exact hlt), List.getElem?_map] at e2
          obtain ⟨p, hp, rfl⟩ := Option.map_eq_some_iff.mp e2
          obtain ⟨d, ed, hd, gd⟩ := al.get hp
          exact ⟨_, rfl, .inl ⟨p, d, rfl, sqT_keep hd (fun o x => k3 p o x), gd, fun H4 k4 => ⟨true, rfl, iteF ⟨_, _, rfl, k3.trans k4, hlt⟩⟩⟩⟩
        · obtain rfl : i = ps.length := by omega
          rw [List.getElem?_append_right (by rw [List.length_map]; exact Nat.le_refl _), List.length_map, Nat.sub_self] at e2
          cases e2
          refine ⟨_, rfl, .inr ⟨v, rfl, b.ext k3, fun H4 k4 => ⟨false, rfl, iteT ⟨_, rfl, nd_ask fun d H' hd k e => ?_⟩⟩⟩⟩
          have k34 := k3.trans k4
          refine q d H' ?_ (k34.trans k) e
          cases z : H d with
          | none => rfl
          | some o => rw [k34 d o z] at hd; cases hd
      · rintro σ H2 ⟨u, w', rfl, k2, hle⟩
        rw [List.length_append, List.length_map] at hle
        exact absurd hle (by show ¬ _ + (_ + 1) ≤ _; omega)
/-- answers of what is no list of deeds -/
theorem ok_answersW {f Cf CD CN : Addr} {fd : FuncData} (F : Fun K "answers" "answers" sAnswers f fd) (T : Nms mg) (G : ∃ g fdg, FnOk P w K mg base (L2.CX P w) 3 g fdg ["value"] (spCheckW K CN) ∧ mg "_check_deeds" = some (.ref g) ∧ PySem.W.keepIn K (.ref g) = true ∧ Binds K fdg ["value"] []) : FnOk P w K mg base (L2.CX P w) 5 f fd ["doors", "deeds"] (spRaiseW K Cf CD CN) := by
  refine F.okX scAnswers (fun vs H Q E h => ?_) (fun cdv A outer s H vs Q E hr h => ?_)
  · obtain ⟨d, x, i, o1, o2, o3, o4, r1, r2, r3, r4, s1, s2, s3, s4, rfl, _⟩ := h
    rfl
  · obtain ⟨d, x, i, o1, o2, o3, o4, r1, r2, r3, r4, s1, s2, s3, s4, rfl, hD, hx, q⟩ := h
    have nd := scAnswers.nd
    obtain ⟨g, fdg, FG, mG, kG, bG⟩ := G
    refine ⟨_, pss_cons (ps_expr (pe_callS (E := WE (fun cls d' σ H => E cls d' H)) FG (hr.mono (by decide)) rfl mG kG bG (fun σ => passAt (takes_of rfl rfl rfl rfl) σ) (pa_cons (pv 1) pa_nil))) pss_never, ?_⟩
    exact ⟨_, rfl, x, i, rfl, hx H .refl, q⟩
theorem ok_wishedW {f Cf CD CN : Addr} {fd : FuncData} (F : Fun K "wished" "wished" sWished f fd) (Cn : CstN K mg) (Y : Drs P w K mg base CD) (YF : DrF P w K mg base Cf CD) (G : ∃ g fdg, FnOk P w K mg base (L2.CX P w) 5 g fdg ["doors", "deeds"] (spRaiseW K Cf CD CN) ∧ mg "answers" = some (.ref g) ∧ PySem.W.keepIn K (.ref g) = true ∧ Binds K fdg ["doors", "deeds"] []) : FnOk P w K mg base (L2.CX P w) 6 f fd ["doors", "deeds"] (spRaiseW K Cf CD CN) := by
  refine F.okX scWished (fun vs H Q E h => ?_) (fun cdv A outer s H vs Q E hr h => ?_)
  · obtain ⟨d, x, i, o1, o2, o3, o4, r1, r2, r3, r4, s1, s2, s3, s4, rfl, _⟩ := h
    rfl
  · obtain ⟨d, x, i, o1, o2, o3, o4, r1, r2, r3, r4, s1, s2, s3, s4, rfl, hD, hx, q⟩ := h
    have nd := scWished.nd
    obtain ⟨g', fd', m, FF, bF⟩ := YF.folded
    obtain ⟨g, fdg, FG, mG, kG, bG⟩ := G
    obtain ⟨Nd, mN, hN⟩ := Cn.names
    refine ⟨_, pss_one (ps_ret (pe_callS (E := WE (fun cls d' σ H => E cls d' H)) FG (hr.mono (by decide)) rfl mG kG bG (fun σ => passAt (takes_of rfl rfl rfl rfl) σ) (pa_cons (pe_meth (pv 0) Y.z.cl m FF (hr.mono (by decide)) bF .nil pass0 (pa_cons (pe_glob (v := .ref Nd) rfl mN rfl) pa_nil)) (pa_cons (pv 1) pa_nil)))), ?_⟩
    obtain ⟨dx, e⟩ := hD.ins
    have all : ∀ e : Dr, e ∈ [Dr.put, Dr.find, Dr.strike] := fun e => by cases e <;> decide
    refine ⟨_, rfl, d, dx, _, rfl, e, rfl, d, Nd, [.put, .find, .strike], o1, o2, o3, o4, r1, r2, r3, r4, s1, s2, s3, s4, rfl, hN H, by decide, by decide, hD, fun y H1 hy D1 k1 => ?_⟩
    refine ⟨_, rfl, y, x, i, _, _, _, _, _, _, _, _, _, _, _, _, rfl, D1, fun H' k => hx H' (k1.trans k), fun e' H2 he k2 hx2 => ?_⟩
    refine q e' H2 ?_ (k1.trans k2) hx2
    cases z : H e' with
    | none => rfl
    | some o => rw [k1 e' o z] at he; cases he
end
end Pd

set_option maxHeartbeats 4000000
namespace Pd
open PySem PySem.Spec PyProof.Rows L2 SX
/-! ### what is no text, what is no deed: drawn -/
def BADC : List Nat := [35, 33, 44, 59, 58, 126, 43, 10, 9, 34, 40, 61, 64, 91, 123, 124, 94, 42, 63, 60]
theorem badc_CH : ∀ c ∈ BADC, c ∉ CH := by decide
theorem goodB_bad {l : List Nat} {c : Nat} (h : c ∈ l) (n : c ∉ CH) : goodB l = false := by
  cases e : goodB l with
  | false => rfl
  | true => exact absurd ((goodB_iff.mp e).1 c h) n
theorem goodB_long {l : List Nat} (h : 60 < l.length) : goodB l = false := by
  cases e : goodB l with
  | false => rfl
  | true => exact absurd (goodB_iff.mp e).2 (by omega)
theorem fold_len (x : List Nat) : ∀ (k : Nat) (acc : Array Nat), ((List.replicate k x.toArray).foldl (· ++ ·) acc).size = acc.size + k * x.length
  | 0, acc => by simp
  | k + 1, acc => by
    rw [List.replicate_succ, List.foldl_cons, fold_len x k, Array.size_append, Nat.add_one_mul]
    simp
    omega
/-- one sign, n times -/
theorem mul_one (c : Nat) {n : Int} (h0 : 1 ≤ n) (h1 : n ≤ 300) : ∃ m : List Nat, Txt.mul (S [c]) n = S m ∧ m.length = n.toNat := by
  obtain ⟨m, e, _, _⟩ := mul_S [c] (n := n) (by omega)
  refine ⟨m, e, ?_⟩
  have e2 : (Txt.mul (S [c]) n).length = n.toNat := by
    unfold Txt.mul
    rw [if_neg (by omega)]
    split
    · rename_i h
      have hn : n = 1 := by
        rcases Bool.or_eq_true_iff.mp h with h | h
        · exact beq_iff_eq.mp h
        · exact absurd h (by rw [S_len]; show ¬ ((1 : Nat) == 0) = true; decide)
      subst hn
      rfl
    · have := fold_len [c] n.toNat #[]
      show ((List.replicate n.toNat [c].toArray).foldl (· ++ ·) #[]).size = n.toNat
      rw [this]; simp
  rw [e, S_len] at e2
  exact e2
theorem mulOk_one {c : Nat} {n : Int} (h0 : 1 ≤ n) (h1 : n ≤ 300) : PySem.MulOk (S [c]) n := by
  refine ⟨?_, fun h2 _ => ?_, fun h2 _ => ?_⟩
  · rw [decide_eq_false (by omega), decide_eq_false (by omega)]; rfl
  · rw [S_len]
    intro h3
    have h6 : (([c].length : Nat) : Int) ≤ (2 ^ 63 - 1 : Int) / n := Int.le_ediv_of_mul_le (by omega) (by simp only [List.length_cons, List.length_nil]; omega)
    omega
  · rw [S_len]
    refine PyProof.Rows.short24 ?_
    show 1 * n.toNat ≤ _
    omega
theorem at_in {xs : List V} {r : Int} (h0 : 0 ≤ r) (h1 : r < (xs.length : Nat)) : ∃ x ∈ xs, atI xs r = some x := by
  obtain ⟨m, rfl⟩ := Int.eq_ofNat_of_zero_le h0
  have hm : m < xs.length := by omega
  exact ⟨xs[m], List.getElem_mem hm, atI_nat (List.getElem?_eq_getElem hm)⟩
def spNoT (K : PySem.W.Frag) : Sp := fun vs H Q _ => ∃ (j a : Addr) (n : Nat) (gs : List Nat) (b : Nat), vs = [.ref j, .ref a] ∧ JarAt H j n ∧ FewAt b H a gs ∧ n + 300 < 1000000 ∧
  ∀ x H', (∀ H2, Kp j H' H2 → Wr K H2 x) → JarAt H' j (n + 300) → Kp j H H' → Q x H'
def spNoD (K : PySem.W.Frag) : Sp := fun vs H Q _ => ∃ (j a : Addr) (n : Nat) (gs : List Nat) (b : Nat), vs = [.ref j, .ref a] ∧ JarAt H j n ∧ FewAt b H a gs ∧ n + 700 < 1000000 ∧
  ∀ x H', (∀ H2, Kp j H' H2 → BadI K H2 x) → JarAt H' j (n + 700) → Kp j H H' → Q x H'
theorem x_noname (l : List Nat) : inV (.str (S (l ++ [120]))) NMS = false := by
  have ne : ∀ m : List Nat, m.getLast? ≠ some 120 → (S m == S (l ++ [120])) = false := fun m h => by
    refine beq_eq_false_iff_ne.mpr fun e => h ?_
    have z : m = l ++ [120] := by
      have : V.str (S m) = V.str (S (l ++ [120])) := by rw [e]
      exact strS_eq.mp this
    rw [z, List.getLast?_append]; rfl
  have e1 : ("put" : Str) = S [112, 117, 116] := by decide +kernel
  have e2 : ("find" : Str) = S [102, 105, 110, 100] := by decide +kernel
  have e3 : ("strike" : Str) = S [115, 116, 114, 105, 107, 101] := by decide +kernel
  show ([V.str "put", V.str "find", V.str "strike"].any fun y => eqV y (.str (S (l ++ [120])))) = false
  simp only [List.any_cons, List.any_nil, Bool.or_false, eqV]
  rw [e1, e2, e3, ne _ (by decide), ne _ (by decide), ne _ (by decide)]
  rfl
section
variable {P : Program} {w : World} {K : PySem.W.Frag} {mg : Str → Option Value} {base : Heap}
theorem ok_noT {f : Addr} {fd : FuncData} (F : Fun K "_law_no_text" "_law_no_text" sLawNoText f fd) (D : Cl P w K mg base 1 "_law_draw" spDraw) (G : Cl P w K mg base 3 "_law_text" spCtext) : FnOk P w K mg base CX0 4 f fd ["well", "few"] (spNoT K) := by
  refine F.ok scLawNoText (fun vs H Q E h => ?_) (fun cdv A outer s H vs Q E hr h => ?_)
  · obtain ⟨j, a, n, gs, b, rfl, _⟩ := h
    rfl
  · obtain ⟨j, a, n, gs, b, rfl, hJ, hG, hn, q⟩ := h
    have nd := scLawNoText.nd
    refine ⟨_, pss_cons (ps_par (i := 2) (j := 3) (by rfl) nd rfl rfl (by decide) rfl rfl (pa_cons (pe_cl G hr (by decide) rfl (pa_cons (pv 0) (pa_cons (pv 1) pa_nil))) (pa_cons (pe_cl D hr (by decide) rfl (pa_cons (pv 0) (pa_cons pe_int pa_nil))) pa_nil)) (by rfl))
      (C8.pss_cut (ps_set (i := 4) nd rfl (Or.inl rfl) (pe_lst (pa_cons pe_str (pa_cons pe_str (pa_cons pe_str (pa_cons pe_str (pa_cons pe_str (pa_cons pe_str (pa_cons pe_str (pa_cons pe_str (pa_cons pe_str (pa_cons pe_str (pa_cons pe_str (pa_cons pe_str (pa_cons pe_str (pa_cons pe_str (pa_cons pe_str (pa_cons pe_str (pa_cons pe_str (pa_cons pe_str (pa_cons pe_str (pa_cons pe_str pa_nil))))))))))))))))))))))
      (C8.pss_cut (ps_set (i := 5) nd rfl (Or.inl rfl) (pe_ix ix_list (pv 4) (pe_cl D hr (by decide) rfl (pa_cons (pv 0) (pa_cons pe_int pa_nil))) (fun _ _ => rfl)))
      (C8.pss_cut (ps_set (i := 6) nd rfl (Or.inl rfl) (pe_lst (pa_cons pe_non (pa_cons pe_int (pa_cons pe_int (pa_cons pe_bl (pa_cons (pe_lst (pa_cons (pv 2) pa_nil)) (pa_cons (pe_tup (pa_cons (pv 2) pa_nil)) (pa_cons pe_dnewK
          (pa_cons (pe_slice C8.sl_txt (pe_op op_add_str (pv 2) (pe_op op_mulS pe_str pe_int)) po_none (po_some pe_int)) (pa_cons (pv 5) (pa_cons (pe_op op_add_str (pe_op op_add_str (pe_slice C8.sl_txt (pv 2) po_none (po_some (pv 3))) (pv 5)) (pe_slice C8.sl_txt (pv 2) (po_some (pv 3)) po_none)) pa_nil))))))))))))
      (pss_one (ps_ret (pe_ix ix_list (pv 6) (pe_cl D hr (by decide) rfl (pa_cons (pv 0) (pa_cons pe_int pa_nil))) (fun _ _ => rfl))))))), ?_⟩
    obtain ⟨xs0, hx0⟩ := hJ.lst
    refine ⟨_, rfl, _, rfl, j, a, n, gs, b, rfl, hJ, hG, by omega, fun l H1 gl J1 k1 => ?_⟩
    refine ⟨_, rfl, j, 61, _, rfl, J1, by omega, by decide, by decide, fun sp H2 hs0 hs1 J2 k2 => ⟨_, _, rfl, ?_⟩⟩
    have k12 := k1.trans k2
    have lS : ∀ m : List Nat, m.length ≤ 1000 → (S m).length ≤ sizeLine := fun m h => by rw [S_len, sizeLine_eq]; omega
    have h60 := gl.2
    obtain ⟨xs2, hx2⟩ := J2.lst
    have sgs : ([V.str "#", .str "!", .str ",", .str ";", .str ":", .str "~", .str "+", .str "\n", .str "\t", .str "\"", .str "(", .str "=", .str "\x40", .str "[", .str "{", .str "|", .str "^", .str "*", .str "?", .str "<"] : List V) = BADC.map fun c => V.str (S [c]) := by decide +kernel
    refine ⟨fun σ' H' => ∃ sg, σ' = [some (.ref j), some (.ref a), some (.str (S l)), some (.int sp), some (.ref sg), none, none] ∧ H' sg = some (.lst (BADC.map fun c => V.str (S [c]))) ∧ sg ≠ j ∧ Ext H2 H', ?_, ?_⟩
    · refine ⟨by show 20 ≤ sizeLine; decide, fun sg hsg => ⟨sg, rfl, ?_, (by rintro rfl; rw [hx2] at hsg; cases hsg), Ext.refl.new hsg⟩⟩
      rw [← sgs]; exact upd_same
    rintro σ3 H3 ⟨sg, rfl, hsg, sgj, k23⟩
    refine ⟨fun σ' H' => ∃ c, σ' = [some (.ref j), some (.ref a), some (.str (S l)), some (.int sp), some (.ref sg), some (.str (S [c])), none] ∧ c ∈ BADC ∧ JarAt H' j (n + 202) ∧ Kp j H3 H', ?_, ?_⟩
    · refine ⟨_, rfl, _, rfl, j, 20, _, rfl, J2.ext k23, by omega, by decide, by decide, fun r H4 hr0 hr1 J4 k4 => ?_⟩
      obtain ⟨m, rfl⟩ := Int.eq_ofNat_of_zero_le hr0
      have hm : m < BADC.length := by show m < 20; omega
      refine ⟨sg, _, _, .str (S [BADC[m]]), rfl, rfl, SqL.of (k4 sg _ sgj hsg), atI_nat (by rw [List.getElem?_map, List.getElem?_eq_getElem hm]; rfl), ?_⟩
      exact ⟨_, rfl, List.getElem_mem hm, J4.le (by omega), k4⟩
    rintro σ4 H4 ⟨c, rfl, hc, J4, k34⟩
    have hcn := badc_CH c hc
    have k04 : Kp j H H4 := (k12.trans k23.kp).trans k34
    obtain ⟨xs4, hx4⟩ := J4.lst
    refine ⟨fun σ' H' => ∃ (ba : Addr) (xs : List V), σ' = [some (.ref j), some (.ref a), some (.str (S l)), some (.int sp), some (.ref sg), some (.str (S [c])), some (.ref ba)] ∧ H' ba = some (.lst xs) ∧ xs.length = 10 ∧ ba ≠ j ∧ Ext H4 H' ∧ (∀ v ∈ xs, ∀ H2, Kp j H' H2 → Wr K H2 v), ?_, ?_⟩
    · refine ⟨_, rfl, by show 1 ≤ sizeLine; decide, fun p1 hp1 => ?_⟩
      obtain ⟨H5, z5⟩ : ∃ H', H' = L2.upd H4 p1 (.lst [.str (S l)]) := ⟨_, rfl⟩
      rw [← z5]
      have k5 : Ext H4 H5 := by rw [z5]; exact Ext.refl.new hp1
      have x5 : H5 p1 = some (.lst [.str (S l)]) := by rw [z5]; exact upd_same
      refine ⟨_, rfl, by show 1 ≤ sizeLine; decide, fun p2 hp2 => ?_⟩
      obtain ⟨H6, z6⟩ : ∃ H', H' = L2.upd H5 p2 (.tup [.str (S l)]) := ⟨_, rfl⟩
      rw [← z6]
      have k6 : Ext H5 H6 := by rw [z6]; exact Ext.refl.new hp2
      have x6 : H6 p2 = some (.tup [.str (S l)]) := by rw [z6]; exact upd_same
      intro p3 hp3
      obtain ⟨H7, z7⟩ : ∃ H', H' = L2.upd H6 p3 (.dK []) := ⟨_, rfl⟩
      rw [← z7]
      have k7 : Ext H6 H7 := by rw [z7]; exact Ext.refl.new hp3
      have x7 : H7 p3 = some (.dK []) := by rw [z7]; exact upd_same
      obtain ⟨ma, ea, la⟩ := mul_one 98 (n := 61) (by decide) (by decide)
      refine ⟨_, rfl, _, _, rfl, rfl, mulOk_one (c := 98) (by decide) (by decide), ?_⟩
      rw [show Txt.mul ("b" : Str) 61 = S ma from ea]
      have la' : ma.length = 61 := la
      refine ⟨_, _, rfl, rfl, by rw [S_len, S_len, sizeLine_eq]; omega, ?_⟩
      rw [S_cat]
      refine ⟨61, rfl, _, rfl, lS _ (by rw [List.length_append]; omega), ?_⟩
      rw [slice_to (by decide)]
      have wa : ∀ H', Wr K H' (.str (S ((l ++ ma).take (61 : Int).toNat))) := fun H' => .str _ (by rw [List.length_take]; show min 61 _ ≤ _; omega) (goodB_long (by rw [List.length_take, List.length_append]; show 60 < min 61 _; omega))
      have wc : ∀ H', Wr K H' (.str (S [c])) := fun H' => .str [c] (by simp) (goodB_bad (List.mem_singleton.mpr rfl) hcn)
      have e1 : (l.take sp.toNat).length ≤ 60 := by rw [List.length_take]; omega
      have e2 : (l.drop sp.toNat).length ≤ 60 := by rw [List.length_drop]; omega
      refine ⟨_, rfl, _, rfl, _, rfl, _, rfl, _, rfl, lS l (by omega), ?_⟩
      rw [slice_to hs0]
      refine ⟨_, rfl, _, _, rfl, rfl, by rw [S_len, S_len, sizeLine_eq]; show _ + 1 ≤ _; omega, ?_⟩
      rw [S_cat]
      refine ⟨_, rfl, _, rfl, _, rfl, _, rfl, lS l (by omega), ?_⟩
      rw [slice_from hs0]
      refine ⟨_, _, rfl, rfl, by rw [S_len, S_len, sizeLine_eq, List.length_append]; show _ + 1 + _ ≤ _; omega, ?_⟩
      rw [S_cat]
      have wd : ∀ H', Wr K H' (.str (S (l.take sp.toNat ++ [c] ++ l.drop sp.toNat))) := fun H' => .str _ (by rw [List.length_append, List.length_append]; show _ + 1 + _ ≤ _; omega) (goodB_bad (List.mem_append_left _ (List.mem_append_right _ (List.mem_singleton.mpr rfl))) hcn)
      refine ⟨by show 10 ≤ sizeLine; decide, fun ba hba => ?_⟩
      have k47 := (k5.trans k6).trans k7
      have hx7 := k47 j _ hx4
      have n1 : p1 ≠ j := by rintro rfl; rw [hx4] at hp1; cases hp1
      have n2 : p2 ≠ j := by rintro rfl; rw [k5 _ _ hx4] at hp2; cases hp2
      have n3 : p3 ≠ j := by rintro rfl; rw [k6 _ _ (k5 _ _ hx4)] at hp3; cases hp3
      have n4 : ba ≠ j := by rintro rfl; rw [hx7] at hba; cases hba
      have k8 : Ext H7 (L2.upd H7 ba (.lst [.non, .int 0, .int 7, .bl true, .ref p1, .ref p2, .ref p3, .str (S ((l ++ ma).take (61 : Int).toNat)), .str (S [c]), .str (S (l.take sp.toNat ++ [c] ++ l.drop sp.toNat))])) := Ext.refl.new hba
      refine ⟨ba, _, rfl, upd_same, rfl, n4, k47.trans k8, fun v hv H9 kk => ?_⟩
      have y1 := kk p1 _ n1 (k8 p1 _ (k7 p1 _ (k6 p1 _ x5)))
      have y2 := kk p2 _ n2 (k8 p2 _ (k7 p2 _ x6))
      have y3 := kk p3 _ n3 (k8 p3 _ x7)
      simp only [List.mem_cons, List.not_mem_nil, or_false] at hv
      rcases hv with rfl | rfl | rfl | rfl | rfl | rfl | rfl | rfl | rfl | rfl
      · exact .non
      · exact .int _
      · exact .int _
      · exact .bl _
      · exact .lst (SqL.of y1)
      · exact .tup (SqT.of y2)
      · exact .dct y3
      · exact wa _
      · exact wc _
      · exact wd _
    rintro σ5 H5 ⟨ba, xs, rfl, hba, hxl, baj, k45, hw⟩
    refine ⟨_, rfl, _, rfl, j, 10, _, rfl, J4.ext k45, by omega, by decide, by decide, fun r H6 hr0 hr1 J6 k6 => ?_⟩
    obtain ⟨v, hv, ev⟩ := at_in (xs := xs) hr0 (by omega)
    exact ⟨ba, _, r, v, rfl, rfl, SqL.of (k6 ba _ baj hba), ev, q v H6 (fun H2 k => hw v hv H2 (k6.trans k)) (J6.le (by omega)) ((k04.trans k45.kp).trans k6)⟩
theorem ok_noD {f : Addr} {fd : FuncData} (F : Fun K "_law_no_deed" "_law_no_deed" sLawNoDeed f fd) (D : Cl P w K mg base 1 "_law_draw" spDraw) (G : Cl P w K mg base 3 "_law_text" spCtext) (GT : Cl P w K mg base 4 "_law_no_text" (spNoT K)) : FnOk P w K mg base CX0 5 f fd ["well", "few"] (spNoD K) := by
  refine F.ok scLawNoDeed (fun vs H Q E h => ?_) (fun cdv A outer s H vs Q E hr h => ?_)
  · obtain ⟨j, a, n, gs, b, rfl, _⟩ := h
    rfl
  · obtain ⟨j, a, n, gs, b, rfl, hJ, hG, hn, q⟩ := h
    have nd := scLawNoDeed.nd
    refine ⟨_, pss_cons (ps_par (i := 2) (j := 3) (by rfl) nd rfl rfl (by decide) rfl rfl (pa_cons (pe_cl G hr (by decide) rfl (pa_cons (pv 0) (pa_cons (pv 1) pa_nil))) (pa_cons (pe_cl D hr (by decide) rfl (pa_cons (pv 0) (pa_cons pe_int pa_nil))) pa_nil)) (by rfl))
      (C8.pss_cut (ps_set (i := 4) nd rfl (Or.inl rfl) (pe_ix ix_list (pe_lst (pa_cons pe_str (pa_cons pe_str (pa_cons pe_str pa_nil)))) (pe_cl D hr (by decide) rfl (pa_cons (pv 0) (pa_cons pe_int pa_nil))) (fun _ _ => rfl)))
      (C8.pss_cut (ps_if (pt_cmpR op_eq (pv 3) pe_int (nomark _)) (pss_one (ps_ret (pe_tup (pa_cons (pv 4) (pa_cons (pe_cl GT hr (by decide) rfl (pa_cons (pv 0) (pa_cons (pv 1) pa_nil))) pa_nil))))) pss_nil)
      (C8.pss_cut (ps_if (pt_cmpR op_eq (pv 3) pe_int (nomark _))
        (C8.pss_cut (ps_set (i := 5) nd rfl (Or.inl rfl) (pe_lst (pa_cons pe_str (pa_cons pe_str (pa_cons pe_str (pa_cons pe_str (pa_cons pe_str (pa_cons pe_str (pa_cons pe_str (pa_cons pe_non (pa_cons pe_int (pa_cons pe_bl (pa_cons (pe_tup (pa_cons (pv 4) pa_nil)) (pa_cons (pe_lst (pa_cons (pv 4) pa_nil)) (pa_cons (pe_op op_add_str (pv 2) pe_str) pa_nil)))))))))))))))
        (pss_one (ps_ret (pe_tup (pa_cons (pe_ix ix_list (pv 5) (pe_cl D hr (by decide) rfl (pa_cons (pv 0) (pa_cons pe_int pa_nil))) (fun _ _ => rfl)) (pa_cons (pv 2) pa_nil)))))) pss_nil)
      (C8.pss_cut (ps_if (pt_cmpR op_eq (pv 3) pe_int (nomark _))
        (pss_one (ps_ret (pe_ix ix_list (pe_lst (pa_cons (pe_tup (pa_cons (pv 4) pa_nil)) (pa_cons (pe_tup (pa_cons (pv 4) (pa_cons (pv 2) (pa_cons (pv 2) pa_nil)))) (pa_cons (pe_tup pa_nil) (pa_cons (pe_tup (pa_cons (pv 4) (pa_cons (pv 2) (pa_cons pe_non pa_nil)))) (pa_cons (pe_tup (pa_cons (pv 2) pa_nil)) pa_nil)))))) (pe_cl D hr (by decide) rfl (pa_cons (pv 0) (pa_cons pe_int pa_nil))) (fun _ _ => rfl)))) pss_nil)
      (pss_one (ps_ret (pe_ix ix_list (pe_lst (pa_cons (pe_lst (pa_cons (pv 4) (pa_cons (pv 2) pa_nil))) (pa_cons pe_non (pa_cons pe_int (pa_cons pe_bl (pa_cons (pv 4) (pa_cons (pv 2) (pa_cons pe_dnewK (pa_cons (pe_tup (pa_cons (pe_tup (pa_cons (pv 4) (pa_cons (pv 2) pa_nil))) pa_nil)) pa_nil))))))))) (pe_cl D hr (by decide) rfl (pa_cons (pv 0) (pa_cons pe_int pa_nil))) (fun _ _ => rfl)))))))), ?_⟩
    obtain ⟨xs0, hx0⟩ := hJ.lst
    refine ⟨_, rfl, _, rfl, j, a, n, gs, b, rfl, hJ, hG, by omega, fun l H1 gl J1 k1 => ?_⟩
    refine ⟨_, rfl, j, 4, _, rfl, J1, by omega, by decide, by decide, fun way H2 hw0 hw1 J2 k2 => ⟨_, _, rfl, ?_⟩⟩
    have k12 := k1.trans k2
    obtain ⟨xs2, hx2⟩ := J2.lst
    have G2 := hG.kp k12 hx0
    refine ⟨fun σ' H' => ∃ d : Dr, σ' = [some (.ref j), some (.ref a), some (.str (S l)), some (.int way), some (nmV d), none] ∧ JarAt H' j (n + 202) ∧ Kp j H2 H', ?_, ?_⟩
    · refine ⟨by show 3 ≤ sizeLine; decide, fun l3 hl3 => ?_⟩
      obtain ⟨H3, z3⟩ : ∃ H', H' = L2.upd H2 l3 (.lst ([Dr.put, .find, .strike].map nmV)) := ⟨_, rfl⟩
      have e3 : L2.upd H2 l3 (.lst [V.str "put", V.str "find", V.str "strike"]) = H3 := z3.symm
      rw [e3]
      have k3 : Ext H2 H3 := by rw [z3]; exact Ext.refl.new hl3
      have x3 : H3 l3 = some (.lst ([Dr.put, .find, .strike].map nmV)) := by rw [z3]; exact upd_same
      have n3 : l3 ≠ j := by rintro rfl; rw [hx2] at hl3; cases hl3
      refine ⟨_, rfl, j, 3, _, rfl, J2.ext k3, by omega, by decide, by decide, fun r H4 hr0 hr1 J4 k4 => ?_⟩
      obtain ⟨m, rfl⟩ := Int.eq_ofNat_of_zero_le hr0
      have hm : m < [Dr.put, Dr.find, Dr.strike].length := by show m < 3; omega
      refine ⟨l3, _, _, nmV [Dr.put, Dr.find, Dr.strike][m], rfl, rfl, SqL.of (k4 l3 _ n3 x3), atI_nat (by rw [List.getElem?_map, List.getElem?_eq_getElem hm]; rfl), ?_⟩
      exact ⟨_, rfl, J4.le (by omega), k3.kp.trans k4⟩
    rintro σ3 H3 ⟨d, rfl, J3, k23⟩
    have G3 := G2.kp k23 hx2
    have k03 : Kp j H H3 := k12.trans k23
    obtain ⟨xs3, hx3⟩ := J3.lst
    have nj : ∀ {H' : Hp} {p : Addr} {o : List V}, H' j = some (.lst o) → H' p = none → p ≠ j := fun e z => by rintro rfl; rw [e] at z; cases z
    let Mid : L2.St → Hp → Prop := fun σ' H' => ∃ u5, σ' = [some (.ref j), some (.ref a), some (.str (S l)), some (.int way), some (nmV d), u5] ∧ H' = H3
    have one : ∀ {H' : Hp} {p : Addr} {o : HO}, H' p = none → Ext H' (L2.upd H' p o) := fun z => Ext.refl.new z
    refine ⟨Mid, ?_, ?_⟩
    · refine ⟨_, rfl, rfl, _, rfl, ite2 (fun _ => ?_) (fun _ => ⟨_, rfl, rfl⟩)⟩
      refine ⟨_, rfl, _, rfl, _, rfl, j, a, _, gs, b, rfl, J3, G3, by omega, fun x H4 wx J4 k4 => ?_⟩
      obtain ⟨xs4, hx4⟩ := J4.lst
      refine ⟨by show 2 ≤ sizeLine; decide, fun t ht => ?_⟩
      have tj := nj hx4 ht
      have kt : Ext H4 (L2.upd H4 t (.tup [nmV d, x])) := one ht
      exact q (.ref t) _ (fun H5 k5 => .txt (SqT.of (k5 t _ tj upd_same)) (wx H5 (kt.kp.trans k5))) ((J4.ext kt).le (by omega)) ((k03.trans k4).trans kt.kp)
    rintro σ4 H4 ⟨u5, rfl, rfl⟩
    refine ⟨Mid, ?_, ?_⟩
    · refine ⟨_, rfl, rfl, _, rfl, ite2 (fun _ => ?_) (fun _ => ⟨_, rfl, rfl⟩)⟩
      refine ⟨fun σ' H' => ∃ (pk : Addr) (xs : List V), σ' = [some (.ref j), some (.ref a), some (.str (S l)), some (.int way), some (nmV d), some (.ref pk)] ∧ H' pk = some (.lst xs) ∧ xs.length = 13 ∧ pk ≠ j ∧ Ext H4 H' ∧ (∀ v ∈ xs, ∀ H2, Kp j H' H2 → ElB K H2 v false), ?_, ?_⟩
      · refine ⟨_, rfl, by show 1 ≤ sizeLine; decide, fun p1 hp1 => ?_⟩
        obtain ⟨H5, z5⟩ : ∃ H', H' = L2.upd H4 p1 (.tup [nmV d]) := ⟨_, rfl⟩
        rw [← z5]
        have k5 : Ext H4 H5 := by rw [z5]; exact one hp1
        have x5 : H5 p1 = some (.tup [nmV d]) := by rw [z5]; exact upd_same
        refine ⟨_, rfl, by show 1 ≤ sizeLine; decide, fun p2 hp2 => ?_⟩
        obtain ⟨H6, z6⟩ : ∃ H', H' = L2.upd H5 p2 (.lst [nmV d]) := ⟨_, rfl⟩
        rw [← z6]
        have k6 : Ext H5 H6 := by rw [z6]; exact one hp2
        have x6 : H6 p2 = some (.lst [nmV d]) := by rw [z6]; exact upd_same
        have eX : ("x" : Str) = S [120] := by decide +kernel
        refine ⟨_, rfl, _, _, rfl, rfl, by rw [S_len, eX, S_len, sizeLine_eq]; have := gl.2; show _ + 1 ≤ _; omega, ?_⟩
        rw [eX, S_cat]
        refine ⟨by show 13 ≤ sizeLine; decide, fun pk hpk => ?_⟩
        have hx5 := k5 j _ hx3
        have n1 := nj hx3 hp1
        have n2 := nj hx5 hp2
        have n3 := nj (k6 j _ hx5) hpk
        have k7 : Ext H6 (L2.upd H6 pk (.lst [.str "Put", .str "take", .str "", .str "finds", .str "strik", .str " put", .str "wish", .non, .int 0, .bl true, .ref p1, .ref p2, .str (S (l ++ [120]))])) := one hpk
        have no : ∀ (v : V) (H2 : Hp), Wr K H2 v → (∀ s, v ≠ .str s) → ElB K H2 v false := fun v H2 h n => .oth h n
        refine ⟨pk, _, rfl, upd_same, rfl, n3, (k5.trans k6).trans k7, fun v hv H9 kk => ?_⟩
        have y1 := kk p1 _ n1 (k7 p1 _ (k6 p1 _ x5))
        have y2 := kk p2 _ n2 (k7 p2 _ x6)
        simp only [List.mem_cons, List.not_mem_nil, or_false] at hv
        rcases hv with rfl | rfl | rfl | rfl | rfl | rfl | rfl | rfl | rfl | rfl | rfl | rfl | rfl
        · exact .str _ (by decide +kernel)
        · exact .str _ (by decide +kernel)
        · exact .str _ (by decide +kernel)
        · exact .str _ (by decide +kernel)
        · exact .str _ (by decide +kernel)
        · exact .str _ (by decide +kernel)
        · exact .str _ (by decide +kernel)
        · exact no _ _ .non fun s e => nomatch e
        · exact no _ _ (.int _) fun s e => nomatch e
        · exact no _ _ (.bl _) fun s e => nomatch e
        · exact no _ _ (.tup (SqT.of y1)) fun s e => nomatch e
        · exact no _ _ (.lst (SqL.of y2)) fun s e => nomatch e
        · exact .str _ (x_noname l)
      rintro σ5 H5 ⟨pk, xs, rfl, hpk, hxl, pkj, k45, hel⟩
      refine ⟨_, rfl, _, rfl, j, 13, _, rfl, J3.ext k45, by omega, by decide, by decide, fun r H6 hr0 hr1 J6 k6 => ?_⟩
      obtain ⟨v, hv, ev⟩ := at_in (xs := xs) hr0 (by omega)
      obtain ⟨xs6, hx6⟩ := J6.lst
      refine ⟨pk, _, r, v, rfl, rfl, SqL.of (k6 pk _ pkj hpk), ev, _, rfl, by show 2 ≤ sizeLine; decide, fun t ht => ?_⟩
      have tj := nj hx6 ht
      have kt : Ext H6 (L2.upd H6 t (.tup [v, .str (S l)])) := one ht
      exact q (.ref t) _ (fun H7 k7 => .nam (SqT.of (k7 t _ tj upd_same)) (hel v hv H7 ((k6.trans kt.kp).trans k7))) ((J6.ext kt).le (by omega)) (((k03.trans k45.kp).trans k6).trans kt.kp)
    rintro σ5 H5 ⟨u5', rfl, rfl⟩
    refine ⟨Mid, ?_, ?_⟩
    · refine ⟨_, rfl, rfl, _, rfl, ite2 (fun _ => ?_) (fun _ => ⟨_, rfl, rfl⟩)⟩
      refine ⟨_, rfl, by show 1 ≤ sizeLine; decide, fun p1 hp1 => ?_⟩
      obtain ⟨H6, z6⟩ : ∃ H', H' = L2.upd H5 p1 (.tup [nmV d]) := ⟨_, rfl⟩
      rw [← z6]
      have k6 : Ext H5 H6 := by rw [z6]; exact one hp1
      have x6 : H6 p1 = some (.tup [nmV d]) := by rw [z6]; exact upd_same
      refine ⟨_, rfl, _, rfl, _, rfl, by show 3 ≤ sizeLine; decide, fun p2 hp2 => ?_⟩
      obtain ⟨H7, z7⟩ : ∃ H', H' = L2.upd H6 p2 (.tup [nmV d, .str (S l), .str (S l)]) := ⟨_, rfl⟩
      rw [← z7]
      have k7 : Ext H6 H7 := by rw [z7]; exact one hp2
      have x7 : H7 p2 = some (.tup [nmV d, .str (S l), .str (S l)]) := by rw [z7]; exact upd_same
      refine ⟨by show 0 ≤ sizeLine; decide, fun p3 hp3 => ?_⟩
      obtain ⟨H8, z8⟩ : ∃ H', H' = L2.upd H7 p3 (.tup []) := ⟨_, rfl⟩
      rw [← z8]
      have k8 : Ext H7 H8 := by rw [z8]; exact one hp3
      have x8 : H8 p3 = some (.tup []) := by rw [z8]; exact upd_same
      refine ⟨_, rfl, _, rfl, by show 3 ≤ sizeLine; decide, fun p4 hp4 => ?_⟩
      obtain ⟨H9, z9⟩ : ∃ H', H' = L2.upd H8 p4 (.tup [nmV d, .str (S l), .non]) := ⟨_, rfl⟩
      rw [← z9]
      have k9 : Ext H8 H9 := by rw [z9]; exact one hp4
      have x9 : H9 p4 = some (.tup [nmV d, .str (S l), .non]) := by rw [z9]; exact upd_same
      refine ⟨_, rfl, by show 1 ≤ sizeLine; decide, fun p5 hp5 => ?_⟩
      obtain ⟨H10, z10⟩ : ∃ H', H' = L2.upd H9 p5 (.tup [.str (S l)]) := ⟨_, rfl⟩
      rw [← z10]
      have k10 : Ext H9 H10 := by rw [z10]; exact one hp5
      have x10 : H10 p5 = some (.tup [.str (S l)]) := by rw [z10]; exact upd_same
      refine ⟨by show 5 ≤ sizeLine; decide, fun p6 hp6 => ?_⟩
      obtain ⟨H11, z11⟩ : ∃ H', H' = L2.upd H10 p6 (.lst [.ref p1, .ref p2, .ref p3, .ref p4, .ref p5]) := ⟨_, rfl⟩
      rw [← z11]
      have k11 : Ext H10 H11 := by rw [z11]; exact one hp6
      have x11 : H11 p6 = some (.lst [.ref p1, .ref p2, .ref p3, .ref p4, .ref p5]) := by rw [z11]; exact upd_same
      have h6' := k6 j _ hx3
      have h7' := k7 j _ h6'
      have h8' := k8 j _ h7'
      have h9' := k9 j _ h8'
      have h10' := k10 j _ h9'
      have n1 := nj hx3 hp1
      have n2 := nj h6' hp2
      have n3 := nj h7' hp3
      have n4 := nj h8' hp4
      have n5 := nj h9' hp5
      have n6 := nj h10' hp6
      have kall := ((((k6.trans k7).trans k8).trans k9).trans k10).trans k11
      refine ⟨_, rfl, j, 5, _, rfl, J3.ext kall, by omega, by decide, by decide, fun r H12 hr0 hr1 J12 k12' => ?_⟩
      obtain ⟨v, hv, ev⟩ := at_in (xs := [.ref p1, .ref p2, .ref p3, .ref p4, .ref p5]) hr0 (by show r < 5; exact hr1)
      refine ⟨p6, _, r, v, rfl, rfl, SqL.of (k12' p6 _ n6 x11), ev, q v H12 (fun H13 k13 => ?_) (J12.le (by omega)) ((k03.trans kall.kp).trans k12')⟩
      have kk := k12'.trans k13
      have y1 := kk p1 _ n1 (k11 p1 _ (k10 p1 _ (k9 p1 _ (k8 p1 _ (k7 p1 _ x6)))))
      have y2 := kk p2 _ n2 (k11 p2 _ (k10 p2 _ (k9 p2 _ (k8 p2 _ x7))))
      have y3 := kk p3 _ n3 (k11 p3 _ (k10 p3 _ (k9 p3 _ x8)))
      have y4 := kk p4 _ n4 (k11 p4 _ (k10 p4 _ x9))
      have y5 := kk p5 _ n5 (k11 p5 _ x10)
      simp only [List.mem_cons, List.not_mem_nil, or_false] at hv
      rcases hv with rfl | rfl | rfl | rfl | rfl
      · exact .len (SqT.of y1) (by show 1 ≠ 2; decide)
      · exact .len (SqT.of y2) (by show 3 ≠ 2; decide)
      · exact .len (SqT.of y3) (by decide)
      · exact .len (SqT.of y4) (by show 3 ≠ 2; decide)
      · exact .len (SqT.of y5) (by show 1 ≠ 2; decide)
    rintro σ6 H6 ⟨u6', rfl, rfl⟩
    refine ⟨_, rfl, _, rfl, by show 2 ≤ sizeLine; decide, fun p1 hp1 => ?_⟩
    obtain ⟨H7, z7⟩ : ∃ H', H' = L2.upd H6 p1 (.lst [nmV d, .str (S l)]) := ⟨_, rfl⟩
    rw [← z7]
    have k7 : Ext H6 H7 := by rw [z7]; exact one hp1
    have x7 : H7 p1 = some (.lst [nmV d, .str (S l)]) := by rw [z7]; exact upd_same
    refine ⟨_, rfl, _, rfl, ?_⟩
    intro p2 hp2
    obtain ⟨H8, z8⟩ : ∃ H', H' = L2.upd H7 p2 (.dK []) := ⟨_, rfl⟩
    rw [← z8]
    have k8 : Ext H7 H8 := by rw [z8]; exact one hp2
    have x8 : H8 p2 = some (.dK []) := by rw [z8]; exact upd_same
    refine ⟨_, rfl, _, rfl, by show 2 ≤ sizeLine; decide, fun p3 hp3 => ?_⟩
    obtain ⟨H9, z9⟩ : ∃ H', H' = L2.upd H8 p3 (.tup [nmV d, .str (S l)]) := ⟨_, rfl⟩
    rw [← z9]
    have k9 : Ext H8 H9 := by rw [z9]; exact one hp3
    refine ⟨by show 1 ≤ sizeLine; decide, fun p4 hp4 => ?_⟩
    obtain ⟨H10, z10⟩ : ∃ H', H' = L2.upd H9 p4 (.tup [.ref p3]) := ⟨_, rfl⟩
    rw [← z10]
    have k10 : Ext H9 H10 := by rw [z10]; exact one hp4
    have x10 : H10 p4 = some (.tup [.ref p3]) := by rw [z10]; exact upd_same
    refine ⟨by show 8 ≤ sizeLine; decide, fun p5 hp5 => ?_⟩
    obtain ⟨H11, z11⟩ : ∃ H', H' = L2.upd H10 p5 (.lst [.ref p1, .non, .int 0, .bl true, nmV d, .str (S l), .ref p2, .ref p4]) := ⟨_, rfl⟩
    rw [← z11]
    have k11 : Ext H10 H11 := by rw [z11]; exact one hp5
    have x11 : H11 p5 = some (.lst [.ref p1, .non, .int 0, .bl true, nmV d, .str (S l), .ref p2, .ref p4]) := by rw [z11]; exact upd_same
    have h7' := k7 j _ hx3
    have h8' := k8 j _ h7'
    have h9' := k9 j _ h8'
    have h10' := k10 j _ h9'
    have n1 := nj hx3 hp1
    have n2 := nj h7' hp2
    have n4 := nj h9' hp4
    have n5 := nj h10' hp5
    have kall := (((k7.trans k8).trans k9).trans k10).trans k11
    refine ⟨_, rfl, j, 8, _, rfl, J3.ext kall, by omega, by decide, by decide, fun r H12 hr0 hr1 J12 k12' => ?_⟩
    obtain ⟨v, hv, ev⟩ := at_in (xs := [.ref p1, .non, .int 0, .bl true, nmV d, .str (S l), .ref p2, .ref p4]) hr0 (by show r < 8; exact hr1)
    refine ⟨p5, _, r, v, rfl, rfl, SqL.of (k12' p5 _ n5 x11), ev, q v H12 (fun H13 k13 => ?_) (J12.le (by omega)) ((k03.trans kall.kp).trans k12')⟩
    have kk := k12'.trans k13
    have y1 := kk p1 _ n1 (k11 p1 _ (k10 p1 _ (k9 p1 _ (k8 p1 _ x7))))
    have y2 := kk p2 _ n2 (k11 p2 _ (k10 p2 _ (k9 p2 _ x8)))
    have y4 := kk p4 _ n4 (k11 p4 _ x10)
    simp only [List.mem_cons, List.not_mem_nil, or_false] at hv
    rcases hv with rfl | rfl | rfl | rfl | rfl | rfl | rfl | rfl
    · exact .lst (SqL.of y1)
    · exact .non
    · exact .int _
    · exact .bl _
    · exact .str _
    · exact .str _
    · exact .dct y2
    · exact .len (SqT.of y4) (by show 1 ≠ 2; decide)
end
end Pd

set_option maxHeartbeats 4000000
namespace Pd
open PySem PySem.Spec PySem.Calls PyProof.Rows L2 MeetsSeq
/-! ### == and != of an own class with an own __eq__: the values of other kinds decline -/
/-- an instance of the class at C stands at x; the class is neither list nor tuple -/
structure InsX (K : PySem.W.Frag) (C x dx : Addr) (h : Heap) : Prop where
  i : K.In h
  o : h.get? x = some (PySem.W.instObj C dx)
  j : ∃ od, PySem.W.InstAt h x (PySem.W.instObj C dx) C (some od)
  nl : PySem.W.subIn K (.ref C) (.type "list") = some false
  nt : PySem.W.subIn K (.ref C) (.type "tuple") = some false
section
variable {K : PySem.W.Frag} {C x dx : Addr}
theorem InsX.noL {prog : Program} {w : World} {h : Heap} (I : InsX K C x dx h) : PySem.W.Looks (model prog w) h (isInstance (.ref x) (.type "list")) false := by
  obtain ⟨od, J⟩ := I.j
  exact J.type.andThen (PySem.W.looks_subIn I.i I.nl)
theorem InsX.noT {prog : Program} {w : World} {h : Heap} (I : InsX K C x dx h) : PySem.W.Looks (model prog w) h (isInstance (.ref x) (.type "tuple")) false := by
  obtain ⟨od, J⟩ := I.j
  exact J.type.andThen (PySem.W.looks_subIn I.i I.nt)
theorem listEq_dec (l : Addr) : Meets (Builtin.«list.__eq__» ⟨[.ref l, .ref x], []⟩) (fun _ R s => InsX K C x dx s.heap ∧ R (.ok (.ret .notImplemented)) s) :=
  .of_wp fun prog w A R s h => by
    obtain ⟨hp, g, d, tk, os⟩ := s
    obtain ⟨I, h⟩ := h
    have f1 := I.noL (prog := prog) (w := w)
    wp_walk using f1.here
    exact ⟨_, rfl, h⟩
theorem listNe_dec (l : Addr) : Meets (Builtin.«list.__ne__» ⟨[.ref l, .ref x], []⟩) (fun _ R s => InsX K C x dx s.heap ∧ R (.ok (.ret .notImplemented)) s) :=
  .of_wp fun prog w A R s h => by
    obtain ⟨hp, g, d, tk, os⟩ := s
    obtain ⟨I, h⟩ := h
    have f1 := I.noL (prog := prog) (w := w)
    wp_walk using f1.here
    exact ⟨_, rfl, h⟩
theorem tupEq_dec (l : Addr) : Meets (Builtin.«tuple.__eq__» ⟨[.ref l, .ref x], []⟩) (fun _ R s => InsX K C x dx s.heap ∧ R (.ok (.ret .notImplemented)) s) :=
  .of_wp fun prog w A R s h => by
    obtain ⟨hp, g, d, tk, os⟩ := s
    obtain ⟨I, h⟩ := h
    have f1 := I.noT (prog := prog) (w := w)
    wp_walk using f1.here
    exact ⟨_, rfl, h⟩
theorem tupNe_dec (l : Addr) : Meets (Builtin.«tuple.__ne__» ⟨[.ref l, .ref x], []⟩) (fun _ R s => InsX K C x dx s.heap ∧ R (.ok (.ret .notImplemented)) s) :=
  .of_wp fun prog w A R s h => by
    obtain ⟨hp, g, d, tk, os⟩ := s
    obtain ⟨I, h⟩ := h
    have f1 := I.noT (prog := prog) (w := w)
    wp_walk using f1.here
    exact ⟨_, rfl, h⟩
theorem strEq_dec (b : Str) (u : Tok) : Meets (Builtin.«str.__eq__» ⟨[.str b u, .ref x], []⟩) (fun _ R s => InsX K C x dx s.heap ∧ R (.ok (.ret .notImplemented)) s) :=
  .of_wp fun prog w A R s h => by
    obtain ⟨hp, g, d, tk, os⟩ := s
    obtain ⟨I, h⟩ := h
    have hl := I.o
    wp_walk using wpAny_load hl
    exact ⟨_, rfl, h⟩
theorem strNe_dec (b : Str) (u : Tok) : Meets (Builtin.«str.__ne__» ⟨[.str b u, .ref x], []⟩) (fun _ R s => InsX K C x dx s.heap ∧ R (.ok (.ret .notImplemented)) s) :=
  .of_wp fun prog w A R s h => by
    obtain ⟨hp, g, d, tk, os⟩ := s
    obtain ⟨I, h⟩ := h
    have hl := I.o
    wp_walk using wpAny_load hl
    exact ⟨_, rfl, h⟩
theorem intEq_dec (b : Int) (u : Tok) : Meets (Builtin.«int.__eq__» ⟨[.int b u, .ref x], []⟩) (fun _ R s => InsX K C x dx s.heap ∧ R (.ok (.ret .notImplemented)) s) :=
  .of_wp fun prog w A R s h => by
    obtain ⟨hp, g, d, tk, os⟩ := s
    obtain ⟨I, h⟩ := h
    have hl := I.o
    wp_walk using wpAny_load hl
    exact ⟨_, rfl, h⟩
theorem intNe_dec (b : Int) (u : Tok) : Meets (Builtin.«int.__ne__» ⟨[.int b u, .ref x], []⟩) (fun _ R s => InsX K C x dx s.heap ∧ R (.ok (.ret .notImplemented)) s) :=
  .of_wp fun prog w A R s h => by
    obtain ⟨hp, g, d, tk, os⟩ := s
    obtain ⟨I, h⟩ := h
    have hl := I.o
    wp_walk using wpAny_load hl
    exact ⟨_, rfl, h⟩
theorem bolEq_dec (b : Bool) : Meets (Builtin.«int.__eq__» ⟨[.bool b, .ref x], []⟩) (fun _ R s => InsX K C x dx s.heap ∧ R (.ok (.ret .notImplemented)) s) :=
  .of_wp fun prog w A R s h => by
    obtain ⟨hp, g, d, tk, os⟩ := s
    obtain ⟨I, h⟩ := h
    have hl := I.o
    wp_walk using wpAny_load hl
    exact ⟨_, rfl, h⟩
theorem bolNe_dec (b : Bool) : Meets (Builtin.«int.__ne__» ⟨[.bool b, .ref x], []⟩) (fun _ R s => InsX K C x dx s.heap ∧ R (.ok (.ret .notImplemented)) s) :=
  .of_wp fun prog w A R s h => by
    obtain ⟨hp, g, d, tk, os⟩ := s
    obtain ⟨I, h⟩ := h
    have hl := I.o
    wp_walk using wpAny_load hl
    exact ⟨_, rfl, h⟩
end
end Pd

set_option maxHeartbeats 4000000
namespace Pd
open PySem PySem.Spec PySem.Calls PyProof.Rows L2 MeetsSeq
open PySem.W (InstAt Looks findIn subIn isFn looks_subIn looks_findIn notFirst ifBound_K check_slot)
/-! ### == and != of an own class, from the left and from the right -/
section
variable {prog : Program} {w : World} {A : Around} {E : Value → Shared → Prop} {s : Shared} {K : PySem.W.Frag} {x C f : Addr} {ox : Obj} {od : Option Obj} {b tb : Value}
theorem tc_eq {Q : Option Value → Shared → Prop} (X : K.In s.heap) (J : InstAt s.heap x ox C od) (hs : findIn K (.ref C) "__eq__" = some (some (.ref f))) (hf : isFn K (.ref f) = true)
    (h : wpAny (model prog w) A (call (.ref f) [.ref x, b]) (fun v s' => ∃ r, v = .bool r ∧ Q (some (.bool r)) s') E s) : wpAny (model prog w) A (tryCompare (.ref x) "__eq__" b) Q E s := by
  unfold tryCompare
  refine wpAny_bind (ifBound_K X J hs hf (wpAny_mono h (fun v s' hv => ?_) fun _ _ e => e))
  obtain ⟨r, rfl, q⟩ := hv
  exact wpAny_pure q
theorem objNe {Q : Fin → Shared → Prop} (hu : A.units < cLine) (X : K.In s.heap) (J : InstAt s.heap x ox C od) (hs : findIn K (.ref C) "__eq__" = some (some (.ref f))) (hf : isFn K (.ref f) = true)
    (h : wpAny (model prog w) A (call (.ref f) [.ref x, b]) (fun v s' => ∃ r, v = .bool r ∧ Q (.done (.ret (.bool (!r)))) s') E s) : wpAny (model prog w) A (Builtin.«object.__ne__» ⟨[.ref x, b], []⟩) Q E s := by
  unfold Builtin.«object.__ne__»
  refine wpAny_bind (wpAny_of_eq (a := ((Value.ref x : Value), [b])) (by first | rfl | (simp only [slotArgs]; rfl)) ?_)
  refine wpAny_bind (wpAny_cRoomFor hu ?_)
  refine wpAny_bind (ifBound_K X J hs hf (wpAny_mono h (fun v s' hv => ?_) fun _ _ e => e))
  obtain ⟨r, rfl, q⟩ := hv
  refine wpAny_bind (wpAny_truthy_bool ?_)
  exact wpAny_pure q
theorem tc_ne {Q : Option Value → Shared → Prop} (hu : A.in1.units < cLine) (X : K.In s.heap) (J : InstAt s.heap x ox C od) (hne : findIn K (.ref C) "__ne__" = some (some (.builtin "object.__ne__"))) (hob : subIn K (.ref C) (.type "object") = some true)
    (hs : findIn K (.ref C) "__eq__" = some (some (.ref f))) (hf : isFn K (.ref f) = true)
    (h : wpAny (model prog w) A.in1 (call (.ref f) [.ref x, b]) (fun v s' => ∃ r, v = .bool r ∧ Q (some (.bool (!r))) s') E s) : wpAny (model prog w) A (tryCompare (.ref x) "__ne__" b) Q E s := by
  have sub : Looks (model prog w) s.heap (isInstance (.ref x) (.type "object")) true := J.type.andThen (looks_subIn X hob)
  have go : wpAny (model prog w) A (call (.builtin "object.__ne__") [.ref x, b]) (fun v s' => ∃ r, v = .bool r ∧ Q (some (.bool r)) s') E s := by
    refine wpAny_call (codeAny_call_builtin PySem.F.cmp_object.ne.plain PySem.F.cmpEntry_ne ?_)
    refine check_slot PySem.F.cmpKind_ne PySem.F.cmpSplit_ne sub (PySem.F.cmpArgs_ne _ _) ?_
    refine objNe hu X J hs hf (wpAny_mono h (fun v s' hv => ?_) fun _ _ e => e)
    obtain ⟨r, rfl, q⟩ := hv
    exact ⟨r, rfl, _, rfl, q⟩
  have fin : wpAny (model prog w) A (call (.builtin "object.__ne__") ([.ref x] ++ [b]) >>= fun v => pure (some v)) (fun r s' => wpAny (model prog w) A (match r with | some .notImplemented | none => pure none | some v => pure (some v)) Q E s') E s := by
    refine wpAny_bind (wpAny_mono go (fun v s' hv => ?_) fun _ _ e => e)
    obtain ⟨r, rfl, q⟩ := hv
    exact wpAny_pure (wpAny_pure q)
  unfold tryCompare
  simp only [callSpecialIfBound?, bindSpecialIfBound?]
  refine wpAny_bind (wpAny_holding (wpAny_bind (wpAny_bind (wpAny_bind (J.type.here ((looks_findIn X hne).here ?_))))))
  refine wpAny_bind (wpAny_askSetting (wpAny_ite ?_))
  have bnd : bindSpecial (.builtin "object.__ne__") (.ref x) = pure ((.builtin "object.__ne__" : Value), [.ref x]) := PySem.F.cmp_object.ne.bind (.ref x)
  split
  · exact wpAny_bind (wpAny_of_eq bnd (wpAny_pure (by exact fin)))
  · exact wpAny_tryCatch (wpAny_bind (wpAny_of_eq bnd (wpAny_pure (by exact fin))))
theorem rc_left {op : CmpOp} {Q : Value → Shared → Prop} (hu : A.units < cLine) (X : K.In s.heap) (J : InstAt s.heap x ox C od) (hb : Looks (model prog w) s.heap (typeOf b) tb) (hn : notFirst K C tb = true)
    (h : wpAny (model prog w) A (tryCompare (.ref x) (cmpInfo op).2.1 b) (fun r s' => ∃ v, r = some v ∧ Q v s') E s) : wpAny (model prog w) A (richCompare op (.ref x) b) Q E s := by
  unfold richCompare
  simp only [oneThing_ref]
  refine wpAny_holding (wpAny_bind (wpAny_cRoomFor hu (wpAny_bind (J.type.here (wpAny_bind (hb.here ?_))))))
  split
  · rename_i q
    have e : subIn K tb (.ref C) = some false := by
      rcases Bool.or_eq_true_iff.mp hn with e | e
      · rw [beq_iff_eq.mp e] at q; simp at q
      · exact beq_iff_eq.mp e
    refine wpAny_bind ((looks_subIn X e).here ?_)
    simp only [Bool.false_eq_true, if_false]
    refine wpAny_bind (wpAny_mono h (fun r s' z => ?_) fun _ _ e => e)
    obtain ⟨v, rfl, hq⟩ := z
    exact wpAny_pure hq
  · refine wpAny_bind (wpAny_pure ?_)
    simp only [Bool.false_eq_true, if_false]
    refine wpAny_bind (wpAny_mono h (fun r s' z => ?_) fun _ _ e => e)
    obtain ⟨v, rfl, hq⟩ := z
    exact wpAny_pure hq
theorem rc_right {op : CmpOp} {a : Value} {Ta id : String} {Q : Value → Shared → Prop} (ha : s.TypeIs a Ta) (hu : A.units < cLine) (X : K.In s.heap) (J : InstAt s.heap x ox C od) (hsub : subIn K (.ref C) (.type Ta) = some false) (h1 : Slot Ta (cmpInfo op).2.1 id)
    (hc1 : ∀ Q' : Value → Shared → Prop, Q' .notImplemented s → wpAny (model prog w) A (call (.builtin id) [a, .ref x]) Q' E s)
    (h : wpAny (model prog w) A (tryCompare (.ref x) (cmpInfo op).2.2 a) (fun r s' => ∃ v, r = some v ∧ Q v s') E s) : wpAny (model prog w) A (richCompare op a (.ref x)) Q E s := by
  rcases hi : cmpInfo op with ⟨sym, n1, n2⟩
  rw [hi] at h1 h
  simp only [richCompare, hi, ha.oneThing_none]
  refine wpAny_holding (wpAny_bind (wpAny_cRoomFor hu (wpAny_bind (wpAny_typeOf ha (wpAny_bind (J.type.here ?_))))))
  have ne : (Value.type Ta != Value.ref C) = true := rfl
  simp only [ne, if_true]
  refine wpAny_bind ((looks_subIn X hsub).here ?_)
  simp only [Bool.false_eq_true, if_false, Bool.not_false, if_true]
  refine wpAny_bind (m := tryCompare a _ (.ref x)) (wpAny_tryCompare_declines ha h1 (hc1 _ ⟨rfl, ?_⟩))
  refine wpAny_bind (wpAny_mono h (fun r s' z => ?_) fun _ _ e => e)
  obtain ⟨v, rfl, hq⟩ := z
  exact wpAny_pure hq
end
end Pd

set_option maxHeartbeats 4000000
namespace Pd
open PySem PySem.Spec PySem.Calls PyProof.Rows L2 MeetsSeq
open PySem.W (InstAt Looks findIn subIn isFn looks_subIn looks_findIn notFirst)
/-! ### == and != of an own class in a text -/
/-- what the class must say -/
structure EqC (K : PySem.W.Frag) (C g : Addr) : Prop where
  eq : findIn K (.ref C) "__eq__" = some (some (.ref g))
  fn : isFn K (.ref g) = true
  ne : findIn K (.ref C) "__ne__" = some (some (.builtin "object.__ne__"))
  ob : subIn K (.ref C) (.type "object") = some true
  l : subIn K (.ref C) (.type "list") = some false
  t : subIn K (.ref C) (.type "tuple") = some false
  s : subIn K (.ref C) (.type "str") = some false
  i : subIn K (.ref C) (.type "int") = some false
  b : subIn K (.ref C) (.type "bool") = some false
  n : subIn K (.ref C) (.type "NoneType") = some false
  l' : subIn K (.type "list") (.ref C) = some false
  t' : subIn K (.type "tuple") (.ref C) = some false
  s' : subIn K (.type "str") (.ref C) = some false
  i' : subIn K (.type "int") (.ref C) = some false
  b' : subIn K (.type "bool") (.ref C) = some false
  n' : subIn K (.type "NoneType") (.ref C) = some false
/-- a value of a built-in kind -/
inductive Bk (K : PySem.W.Frag) (H : Hp) : V → Prop where
  | non : Bk K H .non
  | int (i : Int) : Bk K H (.int i)
  | bl (b : Bool) : Bk K H (.bl b)
  | str (s : Str) : Bk K H (.str s)
  | lst {a : Addr} {xs : List V} (h : SqL K H a xs) : Bk K H (.ref a)
  | tup {a : Addr} {xs : List V} (h : SqT K H a xs) : Bk K H (.ref a)
/-- the other side -/
inductive Kd (K : PySem.W.Frag) (C : Addr) (H : Hp) : V → Prop where
  | kind {y : V} (h : Bk K H y) : Kd K C H y
  | own {a C' dx : Addr} {fs : List (Str × V)} (h : H a = some (.ins C' dx fs)) (n : notFirst K C (.ref C') = true) : Kd K C H (.ref a)
def rOwnL (K : PySem.W.Frag) (C : Addr) (k : Bool → Bool) (sp : Sp) (E : XK) : R2 := fun x y H Q => ∃ a dx fs, x = .ref a ∧ H a = some (.ins C dx fs) ∧ Kd K C H y ∧ sp [.ref a, y] H (fun z H' => ∃ b, z = .bl b ∧ Q (.bl (k b)) H') E
def rOwnR (K : PySem.W.Frag) (C : Addr) (k : Bool → Bool) (sp : Sp) (E : XK) : R2 := fun x y H Q => ∃ a dx fs, y = .ref a ∧ H a = some (.ins C dx fs) ∧ Bk K H x ∧ sp [.ref a, x] H (fun z H' => ∃ b, z = .bl b ∧ Q (.bl (k b)) H') E
section
variable {X : Cx} {CX : CXT} {C g : Addr} {n : Nat} {sp : Sp} {E : XK} {pins : List (Addr × Obj)} {σ : L2.St} {H : Hp} {s : Shared} {Q : VK}
theorem lookT {M : Model} {h : Heap} {a : Addr} {o : Obj} {T : String} (e : h.get? a = some o) (c : o.cls = .type T) : Looks M h (typeOf (.ref a)) (.type T) := fun A Q E s k q => by
  obtain ⟨oc, od, dt, sl⟩ := o
  simp only at c
  subst c
  exact wpAny_typeOf ⟨_, k _ _ e, rfl⟩ q
theorem own_eq {a dx : Addr} {fs : List (Str × V)} {y : V} {u : Value} {k : Bool → Bool} (Z : EqC X.K C g) (F : FnR X.prog X.w X.K X.mg X.base CX n g sp) (hr : Room n X.A) (hx : Passes CX X E) (I : Inv X pins σ H s) (ha : H a = some (.ins C dx fs)) (ry : RelV y u)
    (q : sp [.ref a, y] H (fun z H' => ∃ b, z = .bl b ∧ Q (.bl b) H') E) : wpAny (model X.prog X.w) X.A (tryCompare (.ref a) "__eq__" u) (fun r s' => ∃ v, r = some v ∧ EP X pins σ Q v s') X.xe s := by
  obtain ⟨mA, J, _⟩ := ins_get I.hok ha
  obtain ⟨od, J, _⟩ := J.look
  refine tc_eq I.kIn J Z.eq Z.fn (wpAny_mono (wpAny_call (run_fnR (us := [.ref a, u]) (vs := [.ref a, y]) F hr hx I (.cons rfl (.cons ry .nil)) q)) (fun w s' z => ?_) fun _ _ x => x)
  obtain ⟨z', H', I', rz, b, rfl, qz⟩ := z
  cases (show w = Value.bool b from rz)
  exact ⟨b, rfl, _, rfl, .bl b, H', I', rfl, qz⟩
theorem own_ne {a dx : Addr} {fs : List (Str × V)} {y : V} {u : Value} (Z : EqC X.K C g) (F : FnR X.prog X.w X.K X.mg X.base CX n g sp) (hr : Room (n + 1) X.A) (hx : Passes CX X E) (I : Inv X pins σ H s) (ha : H a = some (.ins C dx fs)) (ry : RelV y u)
    (q : sp [.ref a, y] H (fun z H' => ∃ b, z = .bl b ∧ Q (.bl (!b)) H') E) : wpAny (model X.prog X.w) X.A (tryCompare (.ref a) "__ne__" u) (fun r s' => ∃ v, r = some v ∧ EP X pins σ Q v s') X.xe s := by
  obtain ⟨mA, J, _⟩ := ins_get I.hok ha
  obtain ⟨od, J, _⟩ := J.look
  have hu : X.A.in1.units < cLine := by have := hr.in1.units; omega
  refine tc_ne hu I.kIn J Z.ne Z.ob Z.eq Z.fn (wpAny_mono (wpAny_call (run_fnR1 (us := [.ref a, u]) (vs := [.ref a, y]) F hr hx I (.cons rfl (.cons ry .nil)) q)) (fun w s' z => ?_) fun _ _ x => x)
  obtain ⟨z', H', I', rz, b, rfl, qz⟩ := z
  cases (show w = Value.bool b from rz)
  exact ⟨b, rfl, _, rfl, .bl (!b), H', I', rfl, qz⟩
/-- the type of the other side, which is not asked first -/
theorem kd_look {y : V} {u : Value} (Z : EqC X.K C g) (I : Inv X pins σ H s) (h : Kd X.K C H y) (ry : RelV y u) : ∃ tb, Looks (model X.prog X.w) s.heap (typeOf u) tb ∧ notFirst X.K C tb = true := by
  have nf : ∀ {T : String}, subIn X.K (.type T) (.ref C) = some false → notFirst X.K C (.type T) = true := fun e => by
    unfold notFirst
    rw [e]; simp
  cases h with
  | @own a C' dx fs h n =>
    cases (show u = Value.ref a from ry)
    obtain ⟨mA, J, _⟩ := ins_get I.hok h
    obtain ⟨od, J, _⟩ := J.look
    exact ⟨_, J.type, n⟩
  | kind h =>
    cases h with
    | non => cases ry; exact ⟨_, PySem.W.Looks.of_pure rfl, nf Z.n'⟩
    | int i => obtain ⟨t, rfl⟩ := ry; exact ⟨_, PySem.W.Looks.of_pure rfl, nf Z.i'⟩
    | bl b => cases ry; exact ⟨_, PySem.W.Looks.of_pure rfl, nf Z.b'⟩
    | str x => obtain ⟨t, rfl⟩ := ry; exact ⟨_, PySem.W.Looks.of_pure rfl, nf Z.s'⟩
    | @lst a xs h =>
      cases (show u = Value.ref a from ry)
      obtain ⟨its, rv, pl, hz⟩ := I.list h
      obtain ⟨o, ho, hc, _⟩ := pl.isList
      exact ⟨_, lookT ho hc, nf Z.l'⟩
    | @tup a xs h =>
      cases (show u = Value.ref a from ry)
      obtain ⟨its, rv, ⟨o, ho, hc, _⟩, hz⟩ := I.tuple h
      exact ⟨_, lookT ho hc, nf Z.t'⟩
theorem op_eqL (Z : EqC X.K C g) (F : FnR X.prog X.w X.K X.mg X.base CX n g sp) (hr : Room n X.A) (hx : Passes CX X E) : OpR X (compareOp .Eq) (rOwnL X.K C (fun b => b) sp E) := by
  intro pins s σ H x y v u Q I rx ry h
  obtain ⟨a, dx, fs, rfl, ha, hk, q⟩ := h
  cases (show v = Value.ref a from rx)
  obtain ⟨tb, lk, nf⟩ := kd_look Z I hk ry
  obtain ⟨mA, J, _⟩ := ins_get I.hok ha
  obtain ⟨od, J, _⟩ := J.look
  exact rc_left (op := .Eq) (by have := hr.units; omega) I.kIn J lk nf (own_eq (k := fun b => b) Z F hr hx I ha ry q)
theorem op_neL (Z : EqC X.K C g) (F : FnR X.prog X.w X.K X.mg X.base CX n g sp) (hr : Room (n + 1) X.A) (hx : Passes CX X E) : OpR X (compareOp .NotEq) (rOwnL X.K C (fun b => !b) sp E) := by
  intro pins s σ H x y v u Q I rx ry h
  obtain ⟨a, dx, fs, rfl, ha, hk, q⟩ := h
  cases (show v = Value.ref a from rx)
  obtain ⟨tb, lk, nf⟩ := kd_look Z I hk ry
  obtain ⟨mA, J, _⟩ := ins_get I.hok ha
  obtain ⟨od, J, _⟩ := J.look
  exact rc_left (op := .NotEq) (by have := hr.units; omega) I.kIn J lk nf (own_ne Z F hr hx I ha ry q)
theorem ins_x {a dx : Addr} {fs : List (Str × V)} (Z : EqC X.K C g) (I : Inv X pins σ H s) (ha : H a = some (.ins C dx fs)) : InsX X.K C a dx s.heap := by
  obtain ⟨mA, J, _⟩ := ins_get I.hok ha
  obtain ⟨od, J', _⟩ := J.look
  exact ⟨I.kIn, J.obj, ⟨od, J'⟩, Z.l, Z.t⟩
theorem op_eqR (Z : EqC X.K C g) (F : FnR X.prog X.w X.K X.mg X.base CX n g sp) (hr : Room n X.A) (hx : Passes CX X E) : OpR X (compareOp .Eq) (rOwnR X.K C (fun b => b) sp E) := by
  intro pins s σ H x y v u Q I rx ry h
  obtain ⟨a, dx, fs, rfl, ha, hk, q⟩ := h
  cases (show u = Value.ref a from ry)
  obtain ⟨mA, J, _⟩ := ins_get I.hok ha
  obtain ⟨od, J, _⟩ := J.look
  have hu : X.A.units < cLine := by have := hr.units; omega
  have ix := ins_x Z I ha
  have go := own_eq (k := fun b => b) (Q := Q) Z F hr hx I ha rx q
  cases hk with
  | non => cases rx; exact rc_right (op := .Eq) (a := .none) rfl hu I.kIn J Z.n PySem.F.slot_NoneType_eq (fun _ hq => call_gives PySem.F.slot_NoneType_eq rfl PySem.F.entry_NoneType_eq (PySem.F.args_NoneType_eq_2 _ _) (SeqAt.NoneType___eq___none_ref_0 a) hq) go
  | int i => obtain ⟨t, rfl⟩ := rx; exact rc_right (op := .Eq) (typeIs_int s i t) hu I.kIn J Z.i PySem.F.slot_int_eq (fun _ hq => call_meets PySem.F.slot_int_eq (typeIs_int s i t) PySem.F.entry_int_eq (PySem.F.args_int_eq_2 _ _) (intEq_dec i t) ⟨ix, hq⟩) go
  | bl b => cases rx; exact rc_right (op := .Eq) (a := .bool b) rfl hu I.kIn J Z.b PySem.F.slot_bool_eq (fun _ hq => call_meets PySem.F.slot_bool_eq rfl PySem.F.entry_int_eq (PySem.F.args_int_eq_2 _ _) (bolEq_dec b) ⟨ix, hq⟩) go
  | str x => obtain ⟨t, rfl⟩ := rx; exact rc_right (op := .Eq) (typeIs_str s x t) hu I.kIn J Z.s PySem.F.slot_str_eq (fun _ hq => call_meets PySem.F.slot_str_eq (typeIs_str s x t) PySem.F.entry_str_eq (PySem.F.args_str_eq_2 _ _) (strEq_dec x t) ⟨ix, hq⟩) go
  | @lst l xs h =>
    cases (show v = Value.ref l from rx)
    obtain ⟨its, rv, pl, hz⟩ := I.list h
    obtain ⟨⟨oc, od', dt, sl⟩, ho, hc, _⟩ := pl.isList
    simp only at hc
    subst hc
    exact rc_right (op := .Eq) ⟨_, ho, rfl⟩ hu I.kIn J Z.l PySem.F.slot_list_eq (fun _ hq => call_meets PySem.F.slot_list_eq ⟨_, ho, rfl⟩ PySem.F.entry_list_eq (PySem.F.args_list_eq_2 _ _) (listEq_dec l) ⟨ix, hq⟩) go
  | @tup l xs h =>
    cases (show v = Value.ref l from rx)
    obtain ⟨its, rv, ⟨⟨oc, od', dt, sl⟩, ho, hc, _⟩, hz⟩ := I.tuple h
    simp only at hc
    subst hc
    exact rc_right (op := .Eq) ⟨_, ho, rfl⟩ hu I.kIn J Z.t PySem.F.slot_tuple_eq (fun _ hq => call_meets PySem.F.slot_tuple_eq ⟨_, ho, rfl⟩ PySem.F.entry_tuple_eq (PySem.F.args_tuple_eq_2 _ _) (tupEq_dec l) ⟨ix, hq⟩) go
theorem op_neR (Z : EqC X.K C g) (F : FnR X.prog X.w X.K X.mg X.base CX n g sp) (hr : Room (n + 1) X.A) (hx : Passes CX X E) : OpR X (compareOp .NotEq) (rOwnR X.K C (fun b => !b) sp E) := by
  intro pins s σ H x y v u Q I rx ry h
  obtain ⟨a, dx, fs, rfl, ha, hk, q⟩ := h
  cases (show u = Value.ref a from ry)
  obtain ⟨mA, J, _⟩ := ins_get I.hok ha
  obtain ⟨od, J, _⟩ := J.look
  have hu : X.A.units < cLine := by have := hr.units; omega
  have ix := ins_x Z I ha
  have go := own_ne (Q := Q) Z F hr hx I ha rx q
  cases hk with
  | non => cases rx; exact rc_right (op := .NotEq) (a := .none) rfl hu I.kIn J Z.n PySem.F.slot_NoneType_ne (fun _ hq => call_gives PySem.F.slot_NoneType_ne rfl PySem.F.entry_NoneType_ne (PySem.F.args_NoneType_ne_2 _ _) (SeqAt.NoneType___ne___none_ref_0 a) hq) go
  | int i => obtain ⟨t, rfl⟩ := rx; exact rc_right (op := .NotEq) (typeIs_int s i t) hu I.kIn J Z.i PySem.F.slot_int_ne (fun _ hq => call_meets PySem.F.slot_int_ne (typeIs_int s i t) PySem.F.entry_int_ne (PySem.F.args_int_ne_2 _ _) (intNe_dec i t) ⟨ix, hq⟩) go
  | bl b => cases rx; exact rc_right (op := .NotEq) (a := .bool b) rfl hu I.kIn J Z.b PySem.F.slot_bool_ne (fun _ hq => call_meets PySem.F.slot_bool_ne rfl PySem.F.entry_int_ne (PySem.F.args_int_ne_2 _ _) (bolNe_dec b) ⟨ix, hq⟩) go
  | str x => obtain ⟨t, rfl⟩ := rx; exact rc_right (op := .NotEq) (typeIs_str s x t) hu I.kIn J Z.s PySem.F.slot_str_ne (fun _ hq => call_meets PySem.F.slot_str_ne (typeIs_str s x t) PySem.F.entry_str_ne (PySem.F.args_str_ne_2 _ _) (strNe_dec x t) ⟨ix, hq⟩) go
  | @lst l xs h =>
    cases (show v = Value.ref l from rx)
    obtain ⟨its, rv, pl, hz⟩ := I.list h
    obtain ⟨⟨oc, od', dt, sl⟩, ho, hc, _⟩ := pl.isList
    simp only at hc
    subst hc
    exact rc_right (op := .NotEq) ⟨_, ho, rfl⟩ hu I.kIn J Z.l PySem.F.slot_list_ne (fun _ hq => call_meets PySem.F.slot_list_ne ⟨_, ho, rfl⟩ PySem.F.entry_list_ne (PySem.F.args_list_ne_2 _ _) (listNe_dec l) ⟨ix, hq⟩) go
  | @tup l xs h =>
    cases (show v = Value.ref l from rx)
    obtain ⟨its, rv, ⟨⟨oc, od', dt, sl⟩, ho, hc, _⟩, hz⟩ := I.tuple h
    simp only at hc
    subst hc
    exact rc_right (op := .NotEq) ⟨_, ho, rfl⟩ hu I.kIn J Z.t PySem.F.slot_tuple_ne (fun _ hq => call_meets PySem.F.slot_tuple_ne ⟨_, ho, rfl⟩ PySem.F.entry_tuple_ne (PySem.F.args_tuple_ne_2 _ _) (tupNe_dec l) ⟨ix, hq⟩) go
/-- from either side -/
def rOwnE (K : PySem.W.Frag) (C : Addr) (k : Bool → Bool) (sp : Sp) (E : XK) : R2 := fun x y H Q => rOwnL K C k sp E x y H Q ∨ rOwnR K C k sp E x y H Q
theorem op_eqO (Z : EqC X.K C g) (F : FnR X.prog X.w X.K X.mg X.base CX n g sp) (hr : Room n X.A) (hx : Passes CX X E) : OpR X (compareOp .Eq) (rOwnE X.K C (fun b => b) sp E) := by
  intro pins s σ H x y v u Q I rx ry h
  rcases h with h | h
  · exact op_eqL Z F hr hx pins s σ H x y v u Q I rx ry h
  · exact op_eqR Z F hr hx pins s σ H x y v u Q I rx ry h
theorem op_neO (Z : EqC X.K C g) (F : FnR X.prog X.w X.K X.mg X.base CX n g sp) (hr : Room (n + 1) X.A) (hx : Passes CX X E) : OpR X (compareOp .NotEq) (rOwnE X.K C (fun b => !b) sp E) := by
  intro pins s σ H x y v u Q I rx ry h
  rcases h with h | h
  · exact op_neL Z F hr hx pins s σ H x y v u Q I rx ry h
  · exact op_neR Z F hr hx pins s σ H x y v u Q I rx ry h
end
end Pd

set_option maxHeartbeats 4000000
namespace Pd
open PySem PySem.Spec PyProof.Rows L2 SX
/-! ### the refusal of what is no list of deeds, seen by the law -/
structure DdW (P : Program) (w : World) (K : PySem.W.Frag) (mg : Str → Option Value) (base : Heap) (Cf CD CN CP C1 C2 C3 C4 C5 C6 C7 : Addr) : Prop where
  wi : ∃ (g : Addr) (fd : FuncData), FnOk P w K mg base (L2.CX P w) 6 g fd ["doors", "deeds"] (spRaiseW K Cf CD CN) ∧ mg "wished" = some (.ref g) ∧ PySem.W.keepIn K (.ref g) = true ∧ Binds K fd ["doors", "deeds"] []
  an : ∃ (g : Addr) (fd : FuncData), FnOk P w K mg base (L2.CX P w) 5 g fd ["doors", "deeds"] (spRaiseW K Cf CD CN) ∧ mg "answers" = some (.ref g) ∧ PySem.W.keepIn K (.ref g) = true ∧ KBn K fd ["doors", "deeds"] 0 ["doors", "deeds"] (fun us ws => us ++ ws) (fun xs ys => xs ++ ys)
  gP : mg "PlainError" = some (.ref CP)
  gN : mg "NoDeed" = some (.ref CN)
  g1 : mg "NoDoor" = some (.ref C1)
  g2 : mg "NoForm" = some (.ref C2)
  g3 : mg "NoLine" = some (.ref C3)
  g4 : mg "NoPart" = some (.ref C4)
  g5 : mg "NoStep" = some (.ref C5)
  g6 : mg "NoText" = some (.ref C6)
  g7 : mg "NothingToUndo" = some (.ref C7)
  gV : mg "ValueError" = none
  eP : PySem.W.exmOne K (.ref CN) (.ref CP) = some true
  ec : ExcC K CN
  xc : XfC K CN
  ix : PySem.W.findIn K (.ref CN) "index" = some none
  kV : PySem.W.kitOne K (.ref CN) (.type "ValueError") = some true
  kO : ∀ C ∈ [C1, C2, C3, C4, C5, C6, C7], PySem.W.kitOne K (.ref CN) (.ref C) = some false
theorem kit_me {K : PySem.W.Frag} {C : Addr} : PySem.W.kitOne K (.ref C) (.ref C) = some true := by unfold PySem.W.kitOne; rw [if_pos (beq_self_eq_true _)]
theorem block_fact {X : Cx} {sts : List Stmt} {t : TS} {p : Prop} (h : p → PSs X sts t) : PSs X sts (fun D σ H => p ∧ t D σ H) := by
  constructor
  intro pins s σ H D I ⟨hp, q⟩
  exact (h hp).run pins s σ H D I q
theorem kit_ty_ref {K : PySem.W.Frag} {C : Addr} {b : Bool} (s : PySem.W.subIn K (.ref C) (.type "ValueError") = some b) : PySem.W.kitOne K (.ref C) (.type "ValueError") = some b := by
  have e : PySem.W.kitMeta "ValueError" = true := by decide +kernel
  unfold PySem.W.kitOne
  rw [if_neg (by intro h; exact absurd (beq_iff_eq.mp h) (by intro h; cases h))]
  show (if PySem.W.kitMeta "ValueError" = true then PySem.W.subIn K (.ref C) (.type "ValueError") else none) = some b
  rw [if_pos e]
  exact s
theorem kit_ref_no {K : PySem.W.Frag} {C D : Addr} (i : PySem.W.isClsIn K D = true) (t : PySem.W.typeIn K (.ref D) = some (.type "type")) (s : PySem.W.subIn K (.ref C) (.ref D) = some false) (s' : PySem.W.subIn K (.ref C) (.ref C) = some true) : PySem.W.kitOne K (.ref C) (.ref D) = some false := by
  have e : (PySem.W.clsIn K D).isSome = true := i
  have n : ¬ ((Value.ref C == Value.ref D) = true) := by
    intro h
    have h := beq_iff_eq.mp h
    rw [← h, s'] at s
    cases s
  unfold PySem.W.kitOne
  rw [if_neg n]
  simp [PySem.W.kitCls, t, e, s]
theorem block_ex {X : Cx} {α : Type} {sts : List Stmt} {t : α → TS} {p : α → Prop} (h : ∀ x, p x → PSs X sts (t x)) : PSs X sts (fun D σ H => ∃ x, p x ∧ t x D σ H) := by
  constructor
  intro pins s σ H D I ⟨x, hp, q⟩
  exact (h x hp).run pins s σ H D I q
def spRefD (K : PySem.W.Frag) (C CD : Addr) : Sp := fun vs H Q _ => ∃ (c : Bool) (d : Addr) (x : V) (i : Nat) (o1 o2 o3 o4 r1 r2 r3 r4 : Addr) (s1 s2 s3 s4 : List Stp), vs = [.bl c, .ref d, x] ∧ DrAt K C CD H d o1 o2 o3 o4 r1 r2 r3 r4 s1 s2 s3 s4 ∧ (∀ H', Ext H H' → BadL K H' x i) ∧ ∀ H', Ext H H' → Q (.int (i : Nat)) H'
section
variable {P : Program} {w : World} {K : PySem.W.Frag} {mg : Str → Option Value} {base : Heap}
theorem ok_refD {f Cf CD CN CP C1 C2 C3 C4 C5 C6 C7 : Addr} {fd : FuncData} (F : Fun K "_law_refused" "_law_refused" sLawRefused f fd) (T : Nms mg) (X : DdW P w K mg base Cf CD CN CP C1 C2 C3 C4 C5 C6 C7) : FnOk P w K mg base CX0 7 f fd ["is_wish", "house", "acts"] (spRefD K Cf CD) := by
  refine F.ok scLawRefused (fun vs H Q E h => ?_) (fun cdv A outer s H vs Q E hr h => ?_)
  · obtain ⟨c, d, x, i, o1, o2, o3, o4, r1, r2, r3, r4, s1, s2, s3, s4, rfl, _⟩ := h
    rfl
  · obtain ⟨c, d, x, i, o1, o2, o3, o4, r1, r2, r3, r4, s1, s2, s3, s4, rfl, hD, hx, q⟩ := h
    have nd := scLawRefused.nd
    obtain ⟨gw, fdw, FW, mW, kW, bW⟩ := X.wi
    obtain ⟨ga, fda, FA, mA, kA, bA⟩ := X.an
    refine ⟨_, pss_cons (ps_set (i := 3) nd rfl (Or.inl rfl) pe_non)
      (pss_cons (ps_try_as (i := 4) (tb := fun W => tIfS (tB (tVar 0)) (tDrop (tCallS (spRaiseW K Cf CD CN) (WE W) (tCons (tVar 1) (tCons (tVar 2) tNil)))) (tDrop (tCallKX 2 (spRaiseW K Cf CD CN) (fun xs ys => xs ++ ys) (WE W) (tCons (tVar 1) (tCons (tVar 2) tNil)))))
          (ts := fun a cls d => fun D σ H => ∃ dd, (cls = .ref CN ∧ d = some dd) ∧ tSeq (tAsg (tCB (rIsDT K CN a dd) (tCons (tVar 4) (tCons (tTup (tCons (tC (.ref C1)) (tCons (tC (.ref C2)) (tCons (tC (.ref C3)) (tCons (tC (.ref C4)) (tCons (tC (.ref C5)) (tCons (tC (.ref C6)) (tCons (tC (.ref C7)) tNil)))))))) tNil))) (gName 5))
            (tIfS (tAnd (tB (tCB (rIsD K CN a dd) (tCons (tVar 4) (tCons (tC (.ref CN)) tNil)))) (tAnd (tB (tCB (rIsD K CN a dd) (tCons (tVar 4) (tCons (tC (.ty "ValueError")) tNil)))) (tNot (tB (tVar 5))))) (tAsg (tXf a (.ref CN) (some dd) CN "index" (tVar 4)) (gName 3)) tNext) D σ H)
          (Wout := fun _ _ _ _ => False) rfl rfl nd rfl rfl ⟨rfl, by decide, Or.inl X.gP⟩ takesNone
        (fun W pn xe tk _ => pss_one (ps_if (pt_val (pv 0)) (pss_one (ps_expr (pe_callS FW hr rfl mW kW bW (fun σ => passAt tk σ) (pa_cons (pv 1) (pa_cons (pv 2) pa_nil)))))
          (pss_one (ps_expr (pe_callKX FA (hr.mono (by decide)) (by rfl) mA kA bA (fun σ => passAt tk σ) (pk_cons (pv 1) (pk_cons (pv 2) pk_nil)))))))
        (fun a oe cls d pn hz hf => block_ex fun dd ⟨e1, e2⟩ => by
          subst e1 e2
          exact pss_cons (ps_set (i := 5) nd rfl (Or.inl rfl) (pe_callB (call_isDT X.ec hz hf) (by rfl) T.isi (by decide +kernel) (pa_cons (pv 4) (pa_cons (pe_tup (pa_cons (pe_glob (v := .ref C1) rfl X.g1 rfl) (pa_cons (pe_glob (v := .ref C2) rfl X.g2 rfl) (pa_cons (pe_glob (v := .ref C3) rfl X.g3 rfl) (pa_cons (pe_glob (v := .ref C4) rfl X.g4 rfl) (pa_cons (pe_glob (v := .ref C5) rfl X.g5 rfl) (pa_cons (pe_glob (v := .ref C6) rfl X.g6 rfl) (pa_cons (pe_glob (v := .ref C7) rfl X.g7 rfl) pa_nil)))))))) pa_nil))))
            (pss_one (ps_if (PW.pt (pw_and (pt_val (pe_callB (call_isD X.ec hz hf) (by rfl) T.isi (by decide +kernel) (pa_cons (pv 4) (pa_cons (pe_glob (v := .ref CN) rfl X.gN rfl) pa_nil))))
              (pw_and (pt_val (pe_callB (call_isD X.ec hz hf) (by rfl) T.isi (by decide +kernel) (pa_cons (pv 4) (pa_cons (pe_bltn (v := .ty "ValueError") (by rfl) X.gV (by decide +kernel) rfl) pa_nil))))
              (pw_and1 (pt_not (pt_val (pv 5))))))) (pss_one (ps_set (i := 3) nd rfl (Or.inl rfl) (pe_xf X.xc X.ix hz hf (pv 4)))) pss_nil))))
      (pss_cons (ps_if (PW.pt (pw_or (pt_val (pe_callB call_isi (by rfl) T.isi (by decide +kernel) (pa_cons (pv 3) (pa_cons (pe_bltn (v := .ty "bool") (by rfl) T.bool (by decide +kernel) rfl) pa_nil))))
          (pw_or1 (pt_not (pt_val (pe_callB call_isi (by rfl) T.isi (by decide +kernel) (pa_cons (pv 3) (pa_cons (pe_bltn (v := .ty "int") (by rfl) T.int (by decide +kernel) rfl) pa_nil)))))))) pss_never pss_nil)
      (pss_one (ps_ret (pv 3))))), ?_⟩
    cases c
    · refine ⟨_, rfl, false, rfl, iteF ?_⟩
      refine ⟨_, rfl, _, rfl, rfl, d, x, i, _, _, _, _, _, _, _, _, _, _, _, _, rfl, hD, hx, fun e H2 he k2 hx2 => ⟨true, X.eP, fun _ a ha => ⟨e, ⟨rfl, rfl⟩, ?_⟩, fun q => Bool.noConfusion q⟩⟩
      refine ⟨_, rfl, by show 7 ≤ sizeLine; decide, fun tp htp => ?_⟩
      have hx3 : ∀ o, L2.upd H2 tp o e = some (.xd [("index", .int (i : Nat))]) := fun o => by
        rw [upd_ne (show e ≠ tp from fun z => by rw [z, htp] at hx2; cases hx2)]; exact hx2
      refine ⟨tp, _, _, false, _, rfl, hx3 _, upd_same, .cons (.own C1) (.cons (.own C2) (.cons (.own C3) (.cons (.own C4) (.cons (.own C5) (.cons (.own C6) (.cons (.own C7) .nil)))))), kitAny_no fun u hu => ?_, ?_⟩
      · simp only [List.mem_cons, List.not_mem_nil, or_false] at hu
        rcases hu with rfl | rfl | rfl | rfl | rfl | rfl | rfl
        all_goals exact X.kO _ (by simp)
      refine ⟨_, rfl, .ref CN, .ref CN, true, _, rfl, hx3 _, fun u r => r, kit_me, true, rfl, iteT ?_⟩
      refine ⟨_, rfl, .ty "ValueError", .type "ValueError", true, _, rfl, hx3 _, fun u r => r, X.kV, true, rfl, iteT ?_⟩
      refine ⟨_, rfl, false, rfl, iteT ?_⟩
      refine ⟨_, rfl, rfl, rfl, e, _, .int (i : Nat), rfl, hx3 _, rfl, ?_⟩
      refine ⟨_, rfl, _, _, _, _, false, rfl, .ty "bool", .base (.int _), kit_ty (by decide +kernel), false, rfl, iteF ?_⟩
      refine ⟨_, rfl, _, _, _, _, true, rfl, .ty "int", .base (.int _), kit_ty (by decide +kernel), true, rfl, iteF ?_⟩
      exact ⟨_, rfl, q _ (k2.new' htp)⟩
    · refine ⟨_, rfl, true, rfl, iteT ?_⟩
      refine ⟨_, rfl, _, rfl, d, x, i, _, _, _, _, _, _, _, _, _, _, _, _, rfl, hD, hx, fun e H2 he k2 hx2 => ⟨true, X.eP, fun _ a ha => ⟨e, ⟨rfl, rfl⟩, ?_⟩, fun q => Bool.noConfusion q⟩⟩
      refine ⟨_, rfl, by show 7 ≤ sizeLine; decide, fun tp htp => ?_⟩
      have hx3 : ∀ o, L2.upd H2 tp o e = some (.xd [("index", .int (i : Nat))]) := fun o => by
        rw [upd_ne (show e ≠ tp from fun z => by rw [z, htp] at hx2; cases hx2)]; exact hx2
      refine ⟨tp, _, _, false, _, rfl, hx3 _, upd_same, .cons (.own C1) (.cons (.own C2) (.cons (.own C3) (.cons (.own C4) (.cons (.own C5) (.cons (.own C6) (.cons (.own C7) .nil)))))), kitAny_no fun u hu => ?_, ?_⟩
      · simp only [List.mem_cons, List.not_mem_nil, or_false] at hu
        rcases hu with rfl | rfl | rfl | rfl | rfl | rfl | rfl
        all_goals exact X.kO _ (by simp)
      refine ⟨_, rfl, .ref CN, .ref CN, true, _, rfl, hx3 _, fun u r => r, kit_me, true, rfl, iteT ?_⟩
      refine ⟨_, rfl, .ty "ValueError", .type "ValueError", true, _, rfl, hx3 _, fun u r => r, X.kV, true, rfl, iteT ?_⟩
      refine ⟨_, rfl, false, rfl, iteT ?_⟩
      refine ⟨_, rfl, rfl, rfl, e, _, .int (i : Nat), rfl, hx3 _, rfl, ?_⟩
      refine ⟨_, rfl, _, _, _, _, false, rfl, .ty "bool", .base (.int _), kit_ty (by decide +kernel), false, rfl, iteF ?_⟩
      refine ⟨_, rfl, _, _, _, _, true, rfl, .ty "int", .base (.int _), kit_ty (by decide +kernel), true, rfl, iteF ?_⟩
      exact ⟨_, rfl, q _ (k2.new' htp)⟩
end
end Pd

set_option maxHeartbeats 4000000
namespace Pd
open PySem PySem.Spec PyProof.Rows L2 SX
/-! ### a list with a wrong item behind known deeds -/
structure BadS (K : PySem.W.Frag) (j : Addr) (H : Hp) (bp : Addr) (qs : List Addr) (m : Nat) : Prop where
  ex : ∃ (v : V) (rest : List V), H bp = some (.lst (qs.map V.ref ++ v :: rest)) ∧ (qs.map V.ref ++ v :: rest).all selfB = true ∧ (qs.map V.ref ++ v :: rest).length ≤ m ∧ ∀ H2, Kp j H H2 → BadI K H2 v
  nj : bp ≠ j
theorem refs_self : ∀ qs : List Addr, (qs.map V.ref).all selfB = true
  | [] => rfl
  | _ :: qs => refs_self qs
theorem BadS.kp {K : PySem.W.Frag} {j : Addr} {H H' : Hp} {bp : Addr} {qs : List Addr} {m : Nat} (h : BadS K j H bp qs m) (k : Kp j H H') : BadS K j H' bp qs m := by
  obtain ⟨v, rest, e, s, l, w⟩ := h.ex
  exact ⟨⟨v, rest, k bp _ h.nj e, s, l, fun H2 k2 => w H2 (k.trans k2)⟩, h.nj⟩
theorem BadS.cat {K : PySem.W.Frag} {j : Addr} {H : Hp} {bp b : Addr} {qs : List Addr} {m m2 : Nat} {ys xs : List V} {Q : VK} (h : BadS K j H bp qs m) (hj : H j = some (.lst xs)) (hb : H b = some (.lst ys)) (hs : ys.all selfB = true) (hl : ys.length ≤ m2) (hm : m + m2 ≤ 10000)
    (q : ∀ p H', Ext H H' → BadS K j H' p qs (m + m2) → Q (.ref p) H') : rCat (.ref bp) (.ref b) H Q := by
  obtain ⟨v, rest, e, s, l, w⟩ := h.ex
  refine ⟨bp, b, _, ys, rfl, rfl, e, hb, by rw [sizeLine_eq]; omega, fun p hp => ?_⟩
  have k : Ext H (L2.upd H p (.lst ((qs.map V.ref ++ v :: rest) ++ ys))) := Ext.refl.new hp
  have ea : (qs.map V.ref ++ v :: rest) ++ ys = qs.map V.ref ++ v :: (rest ++ ys) := by rw [List.append_assoc]; rfl
  refine q p _ k ⟨⟨v, rest ++ ys, by rw [upd_same, ea], ?_, ?_, fun H2 k2 => w H2 (k.kp.trans k2)⟩, fun z => by rw [z, hj] at hp; cases hp⟩
  · rw [← ea, List.all_append, s, hs]; rfl
  · rw [← ea, List.length_append]; omega
/-- no list: what is handed instead of one -/
inductive NoL (H : Hp) : V → Prop where
  | tup {a : Addr} {xs : List V} (h : H a = some (.tup xs)) : NoL H (.ref a)
  | dct {a : Addr} (h : H a = some (.dK [])) : NoL H (.ref a)
  | non : NoL H .non
  | int (i : Int) : NoL H (.int i)
  | bl (b : Bool) : NoL H (.bl b)
  | str (s : Str) : NoL H (.str s)
theorem NoL.ext {H H' : Hp} {x : V} (h : NoL H x) (k : Ext H H') : NoL H' x := by
  cases h with
  | tup h => exact .tup (k _ _ h)
  | dct h => exact .dct (k _ _ h)
  | non => exact .non
  | int i => exact .int i
  | bl b => exact .bl b
  | str s => exact .str s
theorem NoL.ty {K : PySem.W.Frag} {H : Hp} {x : V} (h : NoL H x) : ∃ t : String, TyX K H x (.type t) ∧ kitB t "list" = some false := by
  cases h with
  | tup h => exact ⟨_, sqT_ty (SqT.of h), by decide +kernel⟩
  | dct h => exact ⟨_, .base (.dK h), by decide +kernel⟩
  | non => exact ⟨_, .base .non, by decide +kernel⟩
  | int i => exact ⟨_, .base (.int i), by decide +kernel⟩
  | bl b => exact ⟨_, .base (.bl b), by decide +kernel⟩
  | str s => exact ⟨_, .base (.str s), by decide +kernel⟩
theorem NoL.bad {K : PySem.W.Frag} {H : Hp} {x : V} (h : NoL H x) : BadL K H x 0 := by
  obtain ⟨t, ty, kb⟩ := h.ty (K := K)
  exact .kind ty kb
theorem NoL.ne {K : PySem.W.Frag} {H : Hp} {x : V} {Q : VK} (h : NoL H x) (q : Q (.bl false) H) : rNeSelf K x x H Q := by
  cases h with
  | tup h => exact ⟨.inr (.inl ⟨_, _, rfl, rfl, SqT.of h⟩), q⟩
  | dct h => exact ⟨.inr (.inr (.inl ⟨_, rfl, rfl, h⟩)), q⟩
  | non => exact ⟨.inr (.inr (.inr ⟨rfl, .inl rfl⟩)), q⟩
  | int i => exact ⟨.inr (.inr (.inr ⟨rfl, .inr (.inr (.inl ⟨i, rfl⟩))⟩)), q⟩
  | bl b => exact ⟨.inr (.inr (.inr ⟨rfl, .inr (.inl ⟨b, rfl⟩)⟩)), q⟩
  | str s => exact ⟨.inr (.inr (.inr ⟨rfl, .inr (.inr (.inr ⟨s, rfl⟩))⟩)), q⟩
theorem four_298 {r : Int} (h0 : 0 ≤ r) (h1 : r < 4) : ∃ m : Int, atI [V.int 30, V.int 30, V.int 30, V.int 298] r = some (.int m) ∧ 0 ≤ m ∧ m ≤ 300 := by
  obtain rfl | rfl | rfl | rfl : r = 0 ∨ r = 1 ∨ r = 2 ∨ r = 3 := by omega
  · exact ⟨30, rfl, by decide, by decide⟩
  · exact ⟨30, rfl, by decide, by decide⟩
  · exact ⟨30, rfl, by decide, by decide⟩
  · exact ⟨298, rfl, by decide, by decide⟩
theorem lst_mid {K : PySem.W.Frag} {H : Hp} {a : Addr} {qs : List Addr} {lo hi : Int} {Q : VK} (hx : H a = some (.lst (qs.map V.ref))) (q : ∀ p H', Ext H H' → ∀ ys : List V, H' p = some (.lst ys) → ys.all selfB = true → ys.length ≤ qs.length → Q (.ref p) H') : rSlL K (.ref a) (some lo) (some hi) H Q := by
  refine ⟨a, _, rfl, SqL.of hx, fun p hp => q p _ (Ext.refl.new hp) _ upd_same ?_ ?_⟩
  · refine List.all_eq_true.mpr fun v hv => ?_
    unfold cutV at hv
    exact List.all_eq_true.mp (refs_self qs) v (List.mem_of_mem_drop (List.mem_of_mem_take hv))
  · have := cutV_length (qs.map V.ref) (some lo) (some hi)
    rw [List.length_map] at this
    exact this
theorem lst_take3 {K : PySem.W.Frag} {H : Hp} {a : Addr} {xs : List V} {k : Int} {Q : VK} (hx : H a = some (.lst xs)) (h0 : 0 ≤ k) (q : ∀ p H', H p = none → Ext H H' → H' p = some (.lst (xs.take k.toNat)) → Q (.ref p) H') : rSlL K (.ref a) none (some k) H Q :=
  lst_take hx h0 fun p hp => q p _ hp (Ext.refl.new hp) upd_same
theorem lst_cat3 {H : Hp} {a b : Addr} {xs ys : List V} {Q : VK} (hx : H a = some (.lst xs)) (hy : H b = some (.lst ys)) (hl : xs.length + ys.length ≤ sizeLine) (q : ∀ p H', H p = none → Ext H H' → H' p = some (.lst (xs ++ ys)) → Q (.ref p) H') : rCat (.ref a) (.ref b) H Q :=
  ⟨a, b, xs, ys, rfl, rfl, hx, hy, hl, fun p hp => q p _ hp (Ext.refl.new hp) upd_same⟩
theorem drop_self {qs : List Addr} {n : Nat} : ((qs.map V.ref).drop n).all selfB = true ∧ ((qs.map V.ref).drop n).length ≤ qs.length := by
  rw [← List.map_drop]
  exact ⟨refs_self _, by rw [List.length_map, List.length_drop]; omega⟩
section
variable {P : Program} {w : World} {K : PySem.W.Frag} {mg : Str → Option Value} {base : Heap}
theorem ok_law {f Cf CD : Addr} {fd : FuncData} (F : Fun K "law" "law" sLaw f fd) (T : Nms mg) (ml : mg "list" = none) (G1 : Cl P w K mg base 1 "_law_well" (spJar K)) (D : Cl P w K mg base 1 "_law_draw" spDraw) (G2 : ClU P w K mg base 3 "_law_few" spFew) (G3 : Cl P w K mg base 4 "_law_four" (spCfour K))
    (G5 : Cl P w K mg base 4 "_law_deeds" (spCdeeds K)) (G6 : Cl P w K mg base 6 "_law_doors" (spCdoors K Cf CD)) (GW : ∃ g, (∀ n, FnN n P w K mg base 3 g (spCwalk K n)) ∧ mg "_law_walk" = some (.ref g) ∧ PySem.W.keepIn K (.ref g) = true)
    (G7 : Cl P w K mg base 5 "answers" (spAnswers K Cf CD)) (GV : Cl P w K mg base 6 "wished" (spWished K Cf CD)) (G8 : Cl P w K mg base 1 "_law_truths" spTruths2)
    (GN : Cl P w K mg base 5 "_law_no_deed" (spNoD K)) (GR : Cl P w K mg base 7 "_law_refused" (spRefD K Cf CD)) : FnOk P w K mg base CX0 8 f fd ["script"] (spLaw K) := by
  refine F.ok scLaw (fun vs H Q E h => ?_) (fun cdv A outer s H vs Q E hr h => ?_)
  · obtain ⟨a, ns, rfl, _⟩ := h
    rfl
  · obtain ⟨a, ns, rfl, hS, hlen, q⟩ := h
    have nd := scLaw.nd
    obtain ⟨fu, FU, mU, kU⟩ := G2.ex
    obtain ⟨gw, FW, mW, kW⟩ := GW
    refine ⟨_, pss_cons (ps_set (i := 1) nd rfl (Or.inl rfl) (pe_cl G1 hr (by decide) rfl (pa_cons (pv 0) (pa_cons pe_int pa_nil))))
      (pss_cons (ps_par (i := 2) (j := 3) (by rfl) nd rfl rfl (by decide) rfl rfl (pa_cons (pe_cmpR op_eq (pe_cl D hr (by decide) rfl (pa_cons (pv 1) (pa_cons pe_int pa_nil))) pe_int (nomark _)) (pa_cons (pe_cl D hr (by decide) rfl (pa_cons (pv 1) (pa_cons pe_int pa_nil))) pa_nil)) (by rfl))
      (pss_mark (i := 4) nd rfl (Or.inl rfl) FU (hr.mono (by decide)) rfl mU kU (pa_cons (pv 1) pa_nil) (fun b =>
      pssn_cons (psn (ps_set (i := 5) nd rfl (Or.inl rfl) (pe_cl G3 hr (by decide) rfl (pa_cons (pv 1) (pa_cons (pv 4) (pa_cons pe_int (pa_cons pe_int pa_nil)))))))
      (pssn_cons (psn (ps_set (i := 6) nd rfl (Or.inl rfl) (pe_cl G5 hr (by decide) rfl (pa_cons (pv 0) (pa_cons pe_int (pa_cons (pv 1) (pa_cons (pv 4) (pa_cons (pe_ix ix_list (pe_lst (pa_cons pe_int (pa_cons pe_int (pa_cons pe_int (pa_cons pe_int pa_nil))))) (pe_cl D hr (by decide) rfl (pa_cons (pv 1) (pa_cons pe_int pa_nil))) (fun _ _ => rfl)) pa_nil))))))))
      (pssn_cut (psn (ps_par (i := 7) (j := 8) (by rfl) nd rfl rfl (by decide) rfl rfl (pa_cons (pe_cl G6 hr (by decide) rfl (pa_cons (pv 5) pa_nil)) (pa_cons (pe_cl D hr (by decide) rfl (pa_cons (pv 1) (pa_cons (pe_op op_add (pe_callB call_len_seq (by rfl) T.len PySem.boot_len (pa_cons (pv 6) pa_nil)) pe_int) pa_nil))) pa_nil)) (by rfl)))
      (pssn_cut (psn (ps_set (i := 9) nd rfl (Or.inl rfl) (pe_op op_add (pv 8) (pe_cl D hr (by decide) rfl (pa_cons (pv 1) (pa_cons (pe_op op_sub (pe_op op_add (pe_callB call_len_seq (by rfl) T.len PySem.boot_len (pa_cons (pv 6) pa_nil)) pe_int) (pv 8)) pa_nil))))))
      (pssn_cut (psn (ps_set (i := 10) nd rfl (Or.inl rfl) (pe_op op_cat (pe_op op_cat (pe_slice sl_list (pv 6) po_none (po_some (pv 8))) (pe_lst (pa_cons (pe_cl GN hr (by decide) rfl (pa_cons (pv 1) (pa_cons (pv 4) pa_nil))) pa_nil))) (pe_slice sl_list (pv 6) (po_some (pv 8)) (po_some (pv 9))))))
      (pssn_cut (psn (ps_if (pt_cmpR op_lt (pv 3) pe_int (nomark _)) (pss_one (ps_set (i := 10) nd rfl (Or.inl rfl) (pe_op op_cat (pv 10) (pe_lst (pa_cons (pe_cl GN hr (by decide) rfl (pa_cons (pv 1) (pa_cons (pv 4) pa_nil))) pa_nil))))) pss_nil))
      (pssn_cut (psn (ps_set (i := 10) nd rfl (Or.inl rfl) (pe_op op_cat (pv 10) (pe_slice sl_list (pv 6) (po_some (pv 9)) po_none))))
      (pssn_cons (psn (ps_set (i := 11) nd rfl (Or.inl rfl) (pv 8)))
      (pssn_cut (psn (ps_if (pt_cmpR op_eq (pv 3) pe_int (nomark _)) (pss_one (ps_par (i := 11) (j := 10) (by rfl) nd rfl rfl (by decide) rfl rfl (pa_cons pe_int (pa_cons (pe_ix ix_list (pe_lst (pa_cons (pe_callTy call_tuple_of (by rfl) T.tuple (by decide +kernel) (pa_cons (pv 6) pa_nil)) (pa_cons pe_non (pa_cons pe_str (pa_cons pe_int (pa_cons pe_bl (pa_cons pe_dnewK (pa_cons (pe_tup (pa_cons pe_str (pa_cons pe_str pa_nil))) pa_nil))))))))
          (pe_cl D hr (by decide) rfl (pa_cons (pv 1) (pa_cons pe_int pa_nil))) (fun _ _ => rfl)) pa_nil)) (by rfl))) pss_nil))
      (pssn_cut (psn (ps_set (i := 12) nd rfl (Or.inl rfl) (pe_ifExp (pt_val (pe_callB call_isi (by rfl) T.isi (by decide +kernel) (pa_cons (pv 10) (pa_cons (pe_bltn (v := .ty "list") (by rfl) ml (by decide +kernel) rfl) pa_nil)))) (pe_callTy call_list_of (by rfl) ml (by decide +kernel) (pa_cons (pv 10) pa_nil)) (pv 10))))
      (pssn_cut (psn (ps_for PassesOwn.never rfl (pi_range1 rfl T.range (pa_cons pe_int pa_nil)) (pg_name (i := 13) nd rfl (Or.inl rfl))
        (pss_cons (ps_if (PW.pt (pw_or (pt_cmpR (op_neSelf hr.units) (pe_cl GR hr (by decide) rfl (pa_cons (pv 2) (pa_cons (pv 7) (pa_cons (pv 10) pa_nil)))) (pv 11) (nomark _)) (pw_or1 (pt_cmpR (op_neSelf hr.units) (pv 10) (pv 12) (nomark _))))) pss_never pss_nil)
        (pss_one (ps_set (i := 2) nd rfl (Or.inl rfl) (pe_not (pv 2)))))))
      (pssn_cut (psn (ps_set (i := 14) nd rfl (Or.inl rfl) (pe_lst (pa_cons (pe_ix ix_list (pv 5) pe_int (fun _ _ => rfl)) (pa_cons (pe_ix ix_list (pv 5) pe_int (fun _ _ => rfl)) (pa_cons (pe_ix ix_list (pv 5) pe_int (fun _ _ => rfl)) (pa_cons (pe_ix ix_list (pv 5) pe_int (fun _ _ => rfl)) pa_nil)))))))
      (pssn_cons (psn_if (ptn_not (ptn_val (pen_cl G8 hr (by decide) rfl (pan_cons (pen (pe_cl GV hr (by decide) rfl (pa_cons (pv 7) (pa_cons (pe_callTy call_list_of (by rfl) ml (by decide +kernel) (pa_cons (pv 6) pa_nil)) pa_nil)))) (pan_cons (pen_callN (E := E0) (FW b) (hr.mono (by decide)) rfl mW kW (pan (pa_cons (pv 14) (pa_cons (pv 6) pa_nil)))) pan_nil))))) (pssn pss_never) (pssn pss_nil))
      (pssn_one (psn_ret (pen_cl G8 hr (by decide) rfl (pan_cons (pen (pe_cl G7 hr (by decide) rfl (pa_cons (pv 7) (pa_cons (pe_callTy call_list_of (by rfl) ml (by decide +kernel) (pa_cons (pv 6) pa_nil)) pa_nil)))) (pan_cons (pen_callN (E := E0) (FW b) (hr.mono (by decide)) rfl mW kW (pan (pa_cons (pv 5) (pa_cons (pv 6) pa_nil)))) pan_nil)))))))))))))))))))), ?_⟩
    refine ⟨_, rfl, a, ns, 0, rfl, hS, hlen, by decide, by decide, fun j H1 nj J1 k1 => ?_⟩
    replace k1 : Ext H H1 := k1
    refine ⟨_, rfl, j, 2, 0, rfl, J1, by omega, by decide, by decide, fun r1 H2 h01 h11 J2 k2 => ⟨rfl, ?_⟩⟩
    refine ⟨_, rfl, j, 5, _, rfl, J2, by omega, by decide, by decide, fun way H3 hw0 hw1 J3 k3 => ⟨_, _, rfl, ?_⟩⟩
    have k03 : Ext H H3 := ext_kp k1 (k2.trans k3) nj
    refine ⟨_, rfl, j, _, rfl, J3, by omega, fun b fw gs H5 nf' G J5 k5 => ?_⟩
    have k05 : Ext H H5 := ext_kp k03 k5 nj
    obtain ⟨xs5, hx5⟩ := J5.lst
    refine ⟨_, rfl, _, rfl, j, fw, _, gs, b, 3, 9, rfl, J5, G, by decide, by decide, by decide, by decide, by omega, fun p rs rws H6 np F6 J6 k6 => ?_⟩
    obtain ⟨xs6, hx6⟩ := J6.lst
    have pj : p ≠ j := by rintro rfl; rw [hx5] at np; cases np
    have G6' := G.kp k6 hx5
    have k06 := ext_kp k05 k6 nj
    refine ⟨_, rfl, _, rfl, _, rfl, by show 4 ≤ sizeLine; decide, fun l4 hl4 => ?_⟩
    have l4j : l4 ≠ j := by rintro rfl; rw [hx6] at hl4; cases hl4
    obtain ⟨H7, z7⟩ : ∃ H', H' = L2.upd H6 l4 (.lst [V.int 30, V.int 30, V.int 30, V.int 298]) := ⟨_, rfl⟩
    rw [← z7]
    have k7 : Ext H6 H7 := by rw [z7]; exact Ext.refl.new hl4
    have hx4 : H7 l4 = some (.lst [V.int 30, V.int 30, V.int 30, V.int 298]) := by rw [z7]; exact upd_same
    refine ⟨_, rfl, j, 4, _, rfl, J6.ext k7, by omega, by decide, by decide, fun r2 H8 hr0 hr1 J8 k8 => ?_⟩
    obtain ⟨many, em, m0, m300⟩ := four_298 hr0 hr1
    have k08 : Ext H H8 := ext_kp (k06.trans k7) k8 nj
    have k68 := k7.kp.trans k8
    refine ⟨l4, _, r2, _, rfl, rfl, SqL.of (k8 l4 _ l4j hx4), em, ?_⟩
    refine ⟨a, j, fw, ns, 1, many, _, gs, b, rfl, fun H' k => sqL_keep hS (fun o e => (ext_kp k08 k nj) a o e), hlen, by decide, by decide, J8, G6'.kp k68 hx6, m0, m300, by omega, fun la ps ds H9 nla hla al hds J9 k9 => ?_⟩
    obtain ⟨xs8, hx8⟩ := J8.lst
    obtain ⟨xs9, hx9⟩ := J9.lst
    have laj : la ≠ j := by rintro rfl; rw [hx8] at nla; cases nla
    have hp9 : H9 p = some (.lst (rs.map V.ref)) := (k68.trans k9) p _ pj F6.1
    have W9 := F6.2.1.kp hx6 (k68.trans k9)
    have G9 := G6'.kp (k68.trans k9) hx6
    obtain ⟨r1', r2', r3', r4', s1, s2, s3, s4, rfl, rfl, R1, R2, R3, R4, b1, b2, b3, b4⟩ := fourB_split ⟨hp9, W9, F6.2.2⟩
    have alen := al.len
    obtain ⟨n9, hn9, J9'⟩ : ∃ n, n < 200000 ∧ JarAt H9 j n := ⟨_, by omega, J9⟩
    have lps : ps.length ≤ 300 := by omega
    have ell : (ps.map V.ref).length = ps.length := List.length_map ..
    -- house, spot
    refine ⟨fun σ' H' => ∃ (c : Bool) (x o1 o2 o3 o4 : Addr) (sp : Nat), σ' = [some (.ref a), some (.ref j), some (.bl c), some (.int way), some (.ref fw), some (.ref p), some (.ref la), some (.ref x), some (.int (sp : Nat)), none, none, none, none, none, none] ∧ sp ≤ ps.length ∧ DrAt K Cf CD H' x o1 o2 o3 o4 r1' r2' r3' r4' s1 s2 s3 s4 ∧ JarAt H' j (n9 + 1) ∧ Kp j H9 H', ?_, ?_⟩
    · refine ⟨_, rfl, p, r1', r2', r3', r4', s1, s2, s3, s4, rfl, hp9, R1.row, R2.row, R3.row, R4.row, b1, b2, b3, b4, fun x o1 o2 o3 o4 H10 nx D10 k10 => ?_⟩
      refine ⟨_, rfl, _, rfl, la, _, rfl, .inl (SqL.of (k10 la _ hla)), _, _, rfl, rfl, j, _, _, rfl, J9'.ext k10, by omega, by rw [ell]; omega, by rw [ell]; omega, fun r H11 h0 h1 J11 k11 => ⟨_, _, rfl, ?_⟩⟩
      rw [ell] at h1
      obtain ⟨sp, rfl⟩ := Int.eq_ofNat_of_zero_le h0
      exact ⟨_, x, o1, o2, o3, o4, sp, rfl, by omega, D10.kp k11 (k10 j _ hx9), J11, k10.kp.trans k11⟩
    rintro σ10 H10 ⟨c, x, o1, o2, o3, o4, sp, rfl, hsp, DX, J10, k910⟩
    obtain ⟨xs10, hx10⟩ := J10.lst
    have hla10 := k910 la _ laj hla
    -- other
    refine ⟨fun σ' H' => ∃ ot : Int, σ' = [some (.ref a), some (.ref j), some (.bl c), some (.int way), some (.ref fw), some (.ref p), some (.ref la), some (.ref x), some (.int (sp : Nat)), some (.int ot), none, none, none, none, none] ∧ 0 ≤ ot ∧ JarAt H' j (n9 + 2) ∧ Kp j H10 H', ?_, ?_⟩
    · refine ⟨_, rfl, _, rfl, _, rfl, la, _, rfl, .inl (SqL.of hla10), _, _, rfl, rfl, _, rfl, _, _, rfl, rfl, j, _, _, rfl, J10, by omega, by rw [ell]; omega, by rw [ell]; omega, fun r H11 h0 h1 J11 k11 => ?_⟩
      exact ⟨_, _, rfl, rfl, _, rfl, by omega, J11, k11⟩
    rintro σ11 H11 ⟨ot, rfl, ho, J11, k1011⟩
    obtain ⟨xs11, hx11⟩ := J11.lst
    have hla11 := k1011 la _ laj hla10
    have k911 := k910.trans k1011
    have G11 := G9.kp k911 hx9
    obtain ⟨qs, hqs⟩ : ∃ qs, qs = ps.take sp := ⟨_, rfl⟩
    have lqs : qs.length = sp := by rw [hqs, List.length_take]; omega
    -- bad, first
    refine ⟨fun σ' H' => ∃ bp, σ' = [some (.ref a), some (.ref j), some (.bl c), some (.int way), some (.ref fw), some (.ref p), some (.ref la), some (.ref x), some (.int (sp : Nat)), some (.int ot), some (.ref bp), none, none, none, none] ∧ BadS K j H' bp qs 601 ∧ JarAt H' j (n9 + 702) ∧ Kp j H11 H', ?_, ?_⟩
    · refine ⟨_, rfl, _, rfl, sp, rfl, lst_take3 hla11 (by omega) fun u H12 nu ku hu => ?_⟩
      rw [← List.map_take, Int.toNat_natCast, ← hqs] at hu
      have hx12 := ku j _ hx11
      have uj : u ≠ j := by rintro rfl; rw [hx11] at nu; cases nu
      refine ⟨_, rfl, _, rfl, j, fw, _, gs, b, rfl, J11.ext ku, G11.kp ku.kp hx11, by omega, fun v H13 hv J13 k13 => ?_⟩
      obtain ⟨xs13, hx13⟩ := J13.lst
      refine ⟨by show 1 ≤ sizeLine; decide, fun l1 hl1 => ?_⟩
      obtain ⟨H14, z14⟩ : ∃ H', H' = L2.upd H13 l1 (.lst [v]) := ⟨_, rfl⟩
      rw [← z14]
      have k14 : Ext H13 H14 := by rw [z14]; exact Ext.refl.new hl1
      have hx14 : H14 l1 = some (.lst [v]) := by rw [z14]; exact upd_same
      have hu14 := k14 u _ (k13 u _ uj hu)
      refine lst_cat3 hu14 hx14 (by rw [List.length_map, lqs, sizeLine_eq]; show sp + 1 ≤ _; omega) fun u2 H15 nu2 k15 hu2 => ?_
      have k1115 : Kp j H11 H15 := ((ku.kp.trans k13).trans k14.kp).trans k15.kp
      have B15 : BadS K j H15 u2 qs 301 := by
        refine ⟨⟨v, [], hu2, ?_, ?_, fun H2 k2 => hv H2 (k14.kp.trans (k15.kp.trans k2))⟩, ?_⟩
        · rw [List.all_append, refs_self]
          show (true && (selfB v && true)) = true
          rw [(hv H13 .refl).self]; rfl
        · rw [List.length_append, List.length_map, lqs]; show sp + 1 ≤ _; omega
        · rintro rfl; rw [k14 _ _ hx13] at nu2; cases nu2
      refine ⟨_, rfl, _, rfl, sp, rfl, _, rfl, ot, rfl, lst_mid (k1115 la _ laj hla11) fun u3 H16 k16 ys hu3 sy ly => ?_⟩
      have B16 := B15.kp k16.kp
      refine B16.cat (k16 j _ (k15 j _ (k14 j _ hx13))) hu3 sy (show ys.length ≤ 300 by omega) (by omega) fun bp H17 k17 B17 => ?_
      exact ⟨bp, rfl, B17, (((J13.ext k14).ext k15).ext (k16.trans k17)).le (by omega), k1115.trans (k16.trans k17).kp⟩
    rintro σ12 H12 ⟨bp, rfl, B12, J12, k1112⟩
    obtain ⟨xs12, hx12⟩ := J12.lst
    have G12 := G11.kp k1112 hx11
    -- bad, second
    refine ⟨fun σ' H' => ∃ bp, σ' = [some (.ref a), some (.ref j), some (.bl c), some (.int way), some (.ref fw), some (.ref p), some (.ref la), some (.ref x), some (.int (sp : Nat)), some (.int ot), some (.ref bp), none, none, none, none] ∧ BadS K j H' bp qs 602 ∧ JarAt H' j (n9 + 1402) ∧ Kp j H12 H', ?_, ?_⟩
    · refine ⟨_, rfl, _, _, rfl, rfl, _, rfl, ite2 (fun _ => ?_) (fun _ => ⟨bp, rfl, ⟨?_, B12.nj⟩, J12.le (by omega), .refl⟩)⟩
      · refine ⟨_, rfl, _, rfl, _, rfl, j, fw, _, gs, b, rfl, J12, G12, by omega, fun v H13 hv J13 k13 => ?_⟩
        obtain ⟨xs13, hx13⟩ := J13.lst
        refine ⟨by show 1 ≤ sizeLine; decide, fun l1 hl1 => ?_⟩
        obtain ⟨H14, z14⟩ : ∃ H', H' = L2.upd H13 l1 (.lst [v]) := ⟨_, rfl⟩
        rw [← z14]
        have k14 : Ext H13 H14 := by rw [z14]; exact Ext.refl.new hl1
        have hx14 : H14 l1 = some (.lst [v]) := by rw [z14]; exact upd_same
        have k1214 := k13.trans k14.kp
        refine (B12.kp k1214).cat (k14 j _ hx13) hx14 (by show (selfB v && true) = true; rw [(hv H13 .refl).self]; rfl) (Nat.le_refl 1) (by omega) fun bp' H15 k15 B15 => ?_
        exact ⟨bp', rfl, B15, ((J13.ext k14).ext k15).le (by omega), k1214.trans k15.kp⟩
      · obtain ⟨v, rest, e, s, l, w⟩ := B12.ex
        exact ⟨v, rest, e, s, by omega, w⟩
    clear B12
    rintro σ13 H13 ⟨bp, rfl, B13, J13, k1213⟩
    obtain ⟨xs13, hx13⟩ := J13.lst
    have k913 : Kp j H9 H13 := k911.trans (k1112.trans k1213)
    have hla13 := k913 la _ laj hla
    -- bad, whole
    refine ⟨fun σ' H' => ∃ bp, σ' = [some (.ref a), some (.ref j), some (.bl c), some (.int way), some (.ref fw), some (.ref p), some (.ref la), some (.ref x), some (.int (sp : Nat)), some (.int ot), some (.ref bp), none, none, none, none] ∧ BadS K j H' bp qs 902 ∧ JarAt H' j (n9 + 1402) ∧ Kp j H13 H', ?_, ?_⟩
    · refine ⟨_, rfl, _, rfl, _, rfl, ot, rfl, lst_drop2 hla13 ho fun u H14 ku hu => ?_⟩
      obtain ⟨sy, ly⟩ := drop_self (qs := ps) (n := ot.toNat)
      refine (B13.kp ku.kp).cat (ku j _ hx13) hu sy (show _ ≤ 300 by omega) (by omega) fun bp' H15 k15 B15 => ?_
      exact ⟨bp', rfl, B15, (J13.ext ku).ext k15, ku.kp.trans k15.kp⟩
    clear B13
    rintro σ14 H14 ⟨bp, rfl, B14, J14, k1314⟩
    obtain ⟨xs14, hx14⟩ := J14.lst
    have k914 := k913.trans k1314
    have hla14 := k914 la _ laj hla
    have al14 := al.kp k914 hx9
    -- due, or no list
    refine ⟨_, rfl, ?_⟩
    refine ⟨fun σ' H' => ∃ (i : Nat) (bv : V), σ' = [some (.ref a), some (.ref j), some (.bl c), some (.int way), some (.ref fw), some (.ref p), some (.ref la), some (.ref x), some (.int (sp : Nat)), some (.int ot), some bv, some (.int (i : Nat)), none, none, none] ∧ (∀ H2, Ext H' H2 → BadL K H2 bv i) ∧ ((∃ (bp : Addr) (xs : List V), bv = .ref bp ∧ H' bp = some (.lst xs) ∧ xs.all selfB = true) ∨ NoL H' bv) ∧ Kp j H14 H', ?_, ?_⟩
    · refine ⟨_, rfl, rfl, _, rfl, ite2 (fun _ => ?_) (fun _ => ?_)⟩
      · refine ⟨_, rfl, la, _, rfl, .inl ⟨SqL.of hla14, fun t ht => ?_⟩⟩
        obtain ⟨H15, z15⟩ : ∃ H', H' = L2.upd H14 t (.tup (ps.map V.ref)) := ⟨_, rfl⟩
        rw [← z15]
        have k15 : Ext H14 H15 := by rw [z15]; exact Ext.refl.new ht
        have x15 : H15 t = some (.tup (ps.map V.ref)) := by rw [z15]; exact upd_same
        intro p2 hp2
        obtain ⟨H16, z16⟩ : ∃ H', H' = L2.upd H15 p2 (.dK []) := ⟨_, rfl⟩
        rw [← z16]
        have k16 : Ext H15 H16 := by rw [z16]; exact Ext.refl.new hp2
        have x16 : H16 p2 = some (.dK []) := by rw [z16]; exact upd_same
        refine ⟨by show 2 ≤ sizeLine; decide, fun p3 hp3 => ?_⟩
        obtain ⟨H17, z17⟩ : ∃ H', H' = L2.upd H16 p3 (.tup [.str "put", .str "a"]) := ⟨_, rfl⟩
        rw [← z17]
        have k17 : Ext H16 H17 := by rw [z17]; exact Ext.refl.new hp3
        have x17 : H17 p3 = some (.tup [.str "put", .str "a"]) := by rw [z17]; exact upd_same
        refine ⟨by show 7 ≤ sizeLine; decide, fun p4 hp4 => ?_⟩
        obtain ⟨H18, z18⟩ : ∃ H', H' = L2.upd H17 p4 (.lst [.ref t, .non, .str "put", .int 0, .bl true, .ref p2, .ref p3]) := ⟨_, rfl⟩
        rw [← z18]
        have k18 : Ext H17 H18 := by rw [z18]; exact Ext.refl.new hp4
        have x18 : H18 p4 = some (.lst [.ref t, .non, .str "put", .int 0, .bl true, .ref p2, .ref p3]) := by rw [z18]; exact upd_same
        have kall := ((k15.trans k16).trans k17).trans k18
        refine ⟨_, rfl, j, 7, _, rfl, J14.ext kall, by omega, by decide, by decide, fun r H19 hr0 hr1 J19 k19 => ?_⟩
        obtain ⟨v, hv, ev⟩ := at_in (xs := [.ref t, .non, .str "put", .int 0, .bl true, .ref p2, .ref p3]) hr0 (by show r < 7; exact hr1)
        have n1 : t ≠ j := by rintro rfl; rw [hx14] at ht; cases ht
        have n2 : p2 ≠ j := by rintro rfl; rw [k15 _ _ hx14] at hp2; cases hp2
        have n3 : p3 ≠ j := by rintro rfl; rw [k16 _ _ (k15 _ _ hx14)] at hp3; cases hp3
        have n4 : p4 ≠ j := by rintro rfl; rw [k17 _ _ (k16 _ _ (k15 _ _ hx14))] at hp4; cases hp4
        have y1 := k19 t _ n1 (k18 t _ (k17 t _ (k16 t _ x15)))
        have y2 := k19 p2 _ n2 (k18 p2 _ (k17 p2 _ x16))
        have y3 := k19 p3 _ n3 (k18 p3 _ x17)
        have nl : NoL H19 v := by
          simp only [List.mem_cons, List.not_mem_nil, or_false] at hv
          rcases hv with rfl | rfl | rfl | rfl | rfl | rfl | rfl
          · exact .tup y1
          · exact .non
          · exact .str _
          · exact .int _
          · exact .bl _
          · exact .dct y2
          · exact .tup y3
        exact ⟨p4, _, r, v, rfl, rfl, SqL.of (k19 p4 _ n4 x18), ev, _, _, rfl, 0, v, rfl, fun H2 k => (nl.ext k).bad, .inr nl, kall.kp.trans k19⟩
      · obtain ⟨v, rest, e, s, l, w⟩ := B14.ex
        refine ⟨sp, .ref bp, rfl, fun H2 k => ?_, .inl ⟨bp, _, rfl, e, s⟩, .refl⟩
        have z : BadL K H2 (.ref bp) qs.length := .list (SqL.of (k bp _ e)) (hqs ▸ (al14.take sp).ext k) ((w H14 .refl).ext k)
        rw [lqs] at z
        exact z
    rintro σ15 H15 ⟨i, bv, rfl, hB, hK, k1415⟩
    have k915 : Kp j H9 H15 := k914.trans k1415
    have hx9' := hx9
    have DX15 : DrAt K Cf CD H15 x o1 o2 o3 o4 r1' r2' r3' r4' s1 s2 s3 s4 := DX.kp (k1011.trans (k1112.trans (k1213.trans (k1314.trans k1415)))) hx10
    have R115 := R1.kp k915 hx9
    have R215 := R2.kp k915 hx9
    have R315 := R3.kp k915 hx9
    have R415 := R4.kp k915 hx9
    have hp15 := k915 p _ pj hp9
    have hla15 := k915 la _ laj hla
    have al15 := al.kp k915 hx9
    -- kept
    refine ⟨fun σ' H' => ∃ kv, σ' = [some (.ref a), some (.ref j), some (.bl c), some (.int way), some (.ref fw), some (.ref p), some (.ref la), some (.ref x), some (.int (sp : Nat)), some (.int ot), some bv, some (.int (i : Nat)), some kv, none, none] ∧ (∀ (H2 : Hp) (Q : VK), Ext H' H2 → Q (.bl false) H2 → rNeSelf K bv kv H2 Q) ∧ Ext H15 H', ?_, ?_⟩
    · rcases hK with ⟨bp', xs, rfl, hb, hs⟩ | nl
      · refine ⟨_, rfl, _, _, _, _, true, rfl, .ty "list", sqL_ty (SqL.of hb), kit_ty (by decide +kernel), true, rfl, iteT ?_⟩
        refine ⟨_, rfl, bp', _, rfl, .inl (SqL.of hb), fun lc hlc => ?_⟩
        have kl : Ext H15 (L2.upd H15 lc (.lst xs)) := Ext.refl.new hlc
        exact ⟨.ref lc, rfl, fun H2 Q k q => ⟨.inl ⟨bp', lc, xs, rfl, rfl, SqL.of (k bp' _ (kl bp' _ hb)), SqL.of (k lc _ upd_same), hs⟩, q⟩, kl⟩
      · obtain ⟨t, ty, kb⟩ := nl.ty (K := K)
        refine ⟨_, rfl, _, _, _, _, false, rfl, .ty "list", ty, kit_ty kb, false, rfl, iteF ?_⟩
        exact ⟨_, rfl, bv, rfl, fun H2 Q k q => (nl.ext k).ne q, .refl⟩
    rintro σ16 H16 ⟨kv, rfl, hN, k1516⟩
    -- the loop
    refine ⟨fun σ' H' => ∃ c' u, σ' = [some (.ref a), some (.ref j), some (.bl c'), some (.int way), some (.ref fw), some (.ref p), some (.ref la), some (.ref x), some (.int (sp : Nat)), some (.int ot), some bv, some (.int (i : Nat)), some kv, u, none] ∧ Ext H16 H', ?_, ?_⟩
    · refine ⟨2, rfl, by decide, by decide, for_range (lo := 0) (n := 2) (fun i' σ H' => ∃ c' u, σ = [some (.ref a), some (.ref j), some (.bl c'), some (.int way), some (.ref fw), some (.ref p), some (.ref la), some (.ref x), some (.int (sp : Nat)), some (.int ot), some bv, some (.int (i : Nat)), some kv, u, none] ∧ Ext H16 H') ⟨_, _, rfl, .refl⟩ ?_ ?_⟩
      · rintro i' σ H17 hi' ⟨c', u, rfl, k17⟩
        have k1517 := k1516.trans k17
        refine ⟨_, rfl, _, rfl, _, rfl, c', x, bv, i, o1, o2, o3, o4, r1', r2', r3', r4', s1, s2, s3, s4, rfl, DX15.ext k1517, fun H2 k => hB H2 (k1517.trans k), fun H18 k18 => ?_⟩
        refine ⟨_, rfl, ⟨.inr (.inr (.inr ⟨rfl, .inr (.inr (.inl ⟨_, rfl⟩))⟩)), false, rfl, iteF ?_⟩⟩
        refine ⟨_, rfl, _, rfl, hN H18 _ (k17.trans k18) ⟨false, rfl, iteF ?_⟩⟩
        exact ⟨_, rfl, c', rfl, _, _, rfl, k17.trans k18⟩
      · rintro σ H17 ⟨c', u, rfl, k17⟩
        exact ⟨c', u, rfl, k17⟩
    rintro σ17 H17 ⟨c', u, rfl, k17⟩
    have k1517 := k1516.trans k17
    have hp17 := k1517 p _ hp15
    have hla17 := k1517 la _ hla15
    have al17 := al15.ext k1517
    have DX17 := DX15.ext k1517
    -- wish
    refine ⟨fun σ' H' => ∃ ao, σ' = [some (.ref a), some (.ref j), some (.bl c'), some (.int way), some (.ref fw), some (.ref p), some (.ref la), some (.ref x), some (.int (sp : Nat)), some (.int ot), some bv, some (.int (i : Nat)), some kv, u, some (.ref ao)] ∧ H' ao = some (.lst [.ref r4', .ref r4', .ref r4', .ref r4']) ∧ Ext H17 H', ?_, ?_⟩
    · have e3 : atI ([r1', r2', r3', r4'].map V.ref) 3 = some (.ref r4') := rfl
      refine ⟨_, rfl, p, _, 3, _, rfl, rfl, SqL.of hp17, e3, _, rfl, p, _, 3, _, rfl, rfl, SqL.of hp17, e3, _, rfl, p, _, 3, _, rfl, rfl, SqL.of hp17, e3, _, rfl, p, _, 3, _, rfl, rfl, SqL.of hp17, e3, by show 4 ≤ sizeLine; decide, fun ao hao => ?_⟩
      exact ⟨ao, rfl, upd_same, Ext.refl.new hao⟩
    rintro σ18 H18 ⟨ao, rfl, hao, k18⟩
    have k1518 := k1517.trans k18
    obtain ⟨fs, hfs⟩ : ∃ fs, dfs s1 s2 s3 = fs := ⟨_, rfl⟩
    obtain ⟨fw', hfw⟩ : ∃ fs, dfs s4 s4 s4 = fs := ⟨_, rfl⟩
    have wl : ∀ fs, (walkS fs noneS ds).length = ds.length := fun fs => walk_len
    obtain ⟨W, hW⟩ : ∃ W, walkS fs noneS ds = W := ⟨_, rfl⟩
    obtain ⟨Wd, hWd⟩ : ∃ W, walkS fw' noneS ds = W := ⟨_, rfl⟩
    have lW : W.length ≤ 1000 := by rw [← hW, wl]; omega
    have lWd : Wd.length ≤ 1000 := by rw [← hWd, wl]; omega
    refine ⟨_, rfl, _, rfl, la, _, rfl, .inl (SqL.of (k18 la _ hla17)), fun l1 hl1 => ?_⟩
    have kl1 : Ext H18 (L2.upd H18 l1 (.lst (ps.map V.ref))) := Ext.refl.new hl1
    have q1 := k1518.trans kl1
    refine ⟨x, l1, ps, ds, o1, o2, o3, o4, _, _, _, _, s1, s2, s3, s4, rfl, DX15.ext q1, upd_same, al15.ext q1, by omega, fun t H19 nt ht k19 => ?_⟩
    rw [hfw, hWd] at ht
    have q2 := q1.trans k19
    refine ⟨_, rfl, _, rfl, ao, la, r4', r4', r4', r4', s4, s4, s4, s4, ps, ds, rfl, k19 ao _ (kl1 ao _ hao), R415.ext q2, R415.ext q2, R415.ext q2, R415.ext q2, q2 la _ hla15, al15.ext q2, by omega, fun d H20 nd' hd k20 => ?_⟩
    rw [hfw, hWd] at hd
    have q3 := q2.trans k20
    refine ⟨t, d, Wd, rfl, k20 t _ ht, hd, lWd, fun H21 k21 => ⟨true, rfl, iteF ?_⟩⟩
    have q4 := q3.trans k21
    refine ⟨_, rfl, _, rfl, la, _, rfl, .inl (SqL.of (q4 la _ hla15)), fun l2 hl2 => ?_⟩
    have kl2 : Ext H21 (L2.upd H21 l2 (.lst (ps.map V.ref))) := Ext.refl.new hl2
    have q5 := q4.trans kl2
    refine ⟨x, l2, ps, ds, o1, o2, o3, o4, _, _, _, _, s1, s2, s3, s4, rfl, DX15.ext q5, upd_same, al15.ext q5, by omega, fun t2 H22 nt2 ht2 k22 => ?_⟩
    rw [hfs, hW] at ht2
    have q6 := q5.trans k22
    refine ⟨_, rfl, _, rfl, p, la, r1', r2', r3', r4', s1, s2, s3, s4, ps, ds, rfl, q6 p _ hp15, R115.ext q6, R215.ext q6, R315.ext q6, R415.ext q6, q6 la _ hla15, al15.ext q6, by omega, fun d2 H23 nd2 hd2 k23 => ?_⟩
    rw [hfs, hW] at hd2
    exact ⟨t2, d2, W, rfl, k23 t2 _ ht2, hd2, lW, fun H24 k24 => q H24⟩
end
end Pd

set_option maxHeartbeats 4000000
namespace Pd
open PySem PySem.Spec PyProof.Rows L2 SX
theorem all_mk {l : PySem.W.OpenLaw} {w : World} {K : PySem.W.Frag} {h : Heap} {mg : Str → Option Value} {fa C Nd CN CP C1 C2 C3 C4 C5 C6 C7 f0 f1 f2 f3 f4 f5 f6 f7 f8 f9 f10 f11 f12 f13 f14 f15 f16 f17 f18 f19 f20 f21 f22 f23 f24 f25 f26 f27 f28 f29 f30 f31 f32 f33 D g0 Td Ed g1 g2 g3 g4 g5 g6 g7 g8 g9 g10 : Addr} (X : K.In h) (G : h.Ns mainGlobals mg) (hfa : mg "law" = some (.ref fa))
    {od0 an0 od1 an1 od2 an2 od3 an3 od4 an4 od5 an5 od6 an6 od7 an7 od8 an8 od9 an9 od10 an10 od11 an11 od12 an12 od13 an13 od14 an14 od15 an15 od16 an16 od17 an17 od18 an18 od19 an19 od20 an20 od21 an21 od22 an22 od23 an23 od24 an24 od25 an25 od26 an26 od27 an27 od28 an28 od29 an29 od30 an30 od31 an31 od32 an32 od33 an33 od_0 an_0 odT od_1 an_1 od_2 an_2 od_3 an_3 od_4 an_4 od_5 an_5 od_6 an_6 od_7 an_7 od_8 an_8 od_9 an_9 od_10 an_10 odN : Option Addr} {sl0 sl1 sl2 sl3 sl4 sl5 sl6 sl7 sl8 sl9 sl10 sl11 sl12 sl13 sl14 sl15 sl16 sl17 sl18 sl19 sl20 sl21 sl22 sl23 sl24 sl25 sl26 sl27 sl28 sl29 sl30 sl31 sl32 sl33 sl_0 slT sl_1 sl_2 sl_3 sl_4 sl_5 sl_6 sl_7 sl_8 sl_9 sl_10 slN : Array (Option Value)} {oc0 kV0 dc0 pm0 cd0 ct0 oc1 kV1 dc1 pm1 cd1 ct1 oc2 kV2 dc2 pm2 cd2 ct2 oc3 kV3 dc3 pm3 cd3 ct3 oc4 kV4 dc4 pm4 cd4 ct4 oc5 kV5 dc5 pm5 cd5 ct5 oc6 kV6 dc6 pm6 cd6 ct6 oc7 kV7 dc7 pm7 cd7 ct7 oc8 kV8 dc8 pm8 cd8 ct8 oc9 kV9 dc9 pm9 cd9 ct9 oc10 kV10 dc10 pm10 cd10 ct10 oc11 kV11 dc11 pm11 cd11 ct11 oc12 kV12 dc12 pm12 cd12 ct12 oc13 kV13 dc13 pm13 cd13 ct13 oc14 kV14 dc14 pm14 cd14 ct14 oc15 kV15 dc15 pm15 cd15 ct15 oc16 kV16 dc16 pm16 cd16 ct16 oc17 kV17 dc17 pm17 cd17 ct17 oc18 kV18 dc18 pm18 cd18 ct18 oc19 kV19 dc19 pm19 cd19 ct19 oc20 kV20 dc20 pm20 cd20 ct20 oc21 kV21 dc21 pm21 cd21 ct21 oc22 kV22 dc22 pm22 cd22 ct22 oc23 kV23 dc23 pm23 cd23 ct23 oc24 kV24 dc24 pm24 cd24 ct24 oc25 kV25 dc25 pm25 cd25 ct25 oc26 kV26 dc26 pm26 cd26 ct26 oc27 kV27 dc27 pm27 cd27 ct27 oc28 kV28 dc28 pm28 cd28 ct28 oc29 kV29 dc29 pm29 cd29 ct29 oc30 kV30 dc30 pm30 cd30 ct30 oc31 kV31 dc31 pm31 cd31 ct31 oc32 kV32 dc32 pm32 cd32 ct32 oc33 kV33 dc33 pm33 cd33 ct33 oc_0 kV_0 dc_0 pm_0 cd_0 ct_0 ocT oc_1 kV_1 dc_1 pm_1 cd_1 ct_1 oc_2 kV_2 dc_2 pm_2 cd_2 ct_2 oc_3 kV_3 dc_3 pm_3 cd_3 ct_3 oc_4 kV_4 dc_4 pm_4 cd_4 ct_4 oc_5 kV_5 dc_5 pm_5 cd_5 ct_5 oc_6 kV_6 dc_6 pm_6 cd_6 ct_6 oc_7 kV_7 dc_7 pm_7 cd_7 ct_7 oc_8 kV_8 dc_8 pm_8 cd_8 ct_8 oc_9 kV_9 dc_9 pm_9 cd_9 ct_9 oc_10 kV_10 dc_10 pm_10 cd_10 ct_10 : Value} {u1 u2 u3 t0 t1 t2 t3 t4 : Tok} {nT nN : Nat} {nm qn : Str} {NN : Addr} {bs bm sub : List Value} {sn : List Str} {ab : Bool} {col : Option Bool} {dd : Option Addr} {q0 q1 q2 q3 q5 : Option Value}
    (a0 : PySem.W.nsIn K mainGlobals "is_character" = some (some (.ref f0)))
    (l0 : K.lookup f0 = some ⟨oc0, od0, .func (PySem.W.fnOf "is_character" "is_character" (defArgs sIsCharacter) (defBody sIsCharacter) (defScope sIsCharacter) .none kV0 dc0 pm0 an0 cd0 ct0), sl0⟩)
    (c0 : PySem.W.codeIn K cd0 "is_character" = true)
    (k0 : PySem.W.keepIn K (.ref f0) = true)
    (a1 : PySem.W.nsIn K mainGlobals "is_text" = some (some (.ref f1)))
    (l1 : K.lookup f1 = some ⟨oc1, od1, .func (PySem.W.fnOf "is_text" "is_text" (defArgs sIsText) (defBody sIsText) (defScope sIsText) .none kV1 dc1 pm1 an1 cd1 ct1), sl1⟩)
    (c1 : PySem.W.codeIn K cd1 "is_text" = true)
    (k1 : PySem.W.keepIn K (.ref f1) = true)
    (a2 : PySem.W.nsIn K mainGlobals "is_integer" = some (some (.ref f2)))
    (l2 : K.lookup f2 = some ⟨oc2, od2, .func (PySem.W.fnOf "is_integer" "is_integer" (defArgs sIsInteger) (defBody sIsInteger) (defScope sIsInteger) .none kV2 dc2 pm2 an2 cd2 ct2), sl2⟩)
    (c2 : PySem.W.codeIn K cd2 "is_integer" = true)
    (k2 : PySem.W.keepIn K (.ref f2) = true)
    (a3 : PySem.W.nsIn K mainGlobals "is_step" = some (some (.ref f3)))
    (l3 : K.lookup f3 = some ⟨oc3, od3, .func (PySem.W.fnOf "is_step" "is_step" (defArgs sIsStep) (defBody sIsStep) (defScope sIsStep) .none kV3 dc3 pm3 an3 cd3 ct3), sl3⟩)
    (c3 : PySem.W.codeIn K cd3 "is_step" = true)
    (k3 : PySem.W.keepIn K (.ref f3) = true)
    (a4 : PySem.W.nsIn K mainGlobals "_is_choice" = some (some (.ref f4)))
    (l4 : K.lookup f4 = some ⟨oc4, od4, .func (PySem.W.fnOf "_is_choice" "_is_choice" (defArgs sIsChoice) (defBody sIsChoice) (defScope sIsChoice) .none kV4 dc4 pm4 an4 cd4 ct4), sl4⟩)
    (c4 : PySem.W.codeIn K cd4 "_is_choice" = true)
    (k4 : PySem.W.keepIn K (.ref f4) = true)
    (a5 : PySem.W.nsIn K mainGlobals "made_by_steps" = some (some (.ref f5)))
    (l5 : K.lookup f5 = some ⟨oc5, od5, .func (PySem.W.fnOf "made_by_steps" "made_by_steps" (defArgs sMadeBySteps) (defBody sMadeBySteps) (defScope sMadeBySteps) .none kV5 dc5 pm5 an5 cd5 ct5), sl5⟩)
    (c5 : PySem.W.codeIn K cd5 "made_by_steps" = true)
    (k5 : PySem.W.keepIn K (.ref f5) = true)
    (a6 : PySem.W.nsIn K mainGlobals "made_by_step" = some (some (.ref f6)))
    (l6 : K.lookup f6 = some ⟨oc6, od6, .func (PySem.W.fnOf "made_by_step" "made_by_step" (defArgs sMadeByStep) (defBody sMadeByStep) (defScope sMadeByStep) .none kV6 dc6 pm6 an6 cd6 ct6), sl6⟩)
    (c6 : PySem.W.codeIn K cd6 "made_by_step" = true)
    (k6 : PySem.W.keepIn K (.ref f6) = true)
    (a7 : PySem.W.nsIn K mainGlobals "_once" = some (some (.ref f7)))
    (l7 : K.lookup f7 = some ⟨oc7, od7, .func (PySem.W.fnOf "_once" "_once" (defArgs sOnce) (defBody sOnce) (defScope sOnce) .none kV7 dc7 pm7 an7 cd7 ct7), sl7⟩)
    (c7 : PySem.W.codeIn K cd7 "_once" = true)
    (k7 : PySem.W.keepIn K (.ref f7) = true)
    (a8 : PySem.W.nsIn K mainGlobals "answers" = some (some (.ref f8)))
    (l8 : K.lookup f8 = some ⟨oc8, od8, .func (PySem.W.fnOf "answers" "answers" (defArgs sAnswers) (defBody sAnswers) (defScope sAnswers) .none kV8 dc8 pm8 an8 cd8 ct8), sl8⟩)
    (c8 : PySem.W.codeIn K cd8 "answers" = true)
    (k8 : PySem.W.keepIn K (.ref f8) = true)
    (a9 : PySem.W.nsIn K mainGlobals "_foldings_of" = some (some (.ref f9)))
    (l9 : K.lookup f9 = some ⟨oc9, od9, .func (PySem.W.fnOf "_foldings_of" "_foldings_of" (defArgs sFoldingsOf) (defBody sFoldingsOf) (defScope sFoldingsOf) .none kV9 dc9 pm9 an9 cd9 ct9), sl9⟩)
    (c9 : PySem.W.codeIn K cd9 "_foldings_of" = true)
    (k9 : PySem.W.keepIn K (.ref f9) = true)
    (a10 : PySem.W.nsIn K mainGlobals "_is_name" = some (some (.ref f10)))
    (l10 : K.lookup f10 = some ⟨oc10, od10, .func (PySem.W.fnOf "_is_name" "_is_name" (defArgs sIsName) (defBody sIsName) (defScope sIsName) .none kV10 dc10 pm10 an10 cd10 ct10), sl10⟩)
    (c10 : PySem.W.codeIn K cd10 "_is_name" = true)
    (k10 : PySem.W.keepIn K (.ref f10) = true)
    (a11 : PySem.W.nsIn K mainGlobals "_check_deeds" = some (some (.ref f11)))
    (l11 : K.lookup f11 = some ⟨oc11, od11, .func (PySem.W.fnOf "_check_deeds" "_check_deeds" (defArgs sCheckDeeds) (defBody sCheckDeeds) (defScope sCheckDeeds) .none kV11 dc11 pm11 an11 cd11 ct11), sl11⟩)
    (c11 : PySem.W.codeIn K cd11 "_check_deeds" = true)
    (k11 : PySem.W.keepIn K (.ref f11) = true)
    (a12 : PySem.W.nsIn K mainGlobals "_is_deed" = some (some (.ref f12)))
    (l12 : K.lookup f12 = some ⟨oc12, od12, .func (PySem.W.fnOf "_is_deed" "_is_deed" (defArgs sIsDeed) (defBody sIsDeed) (defScope sIsDeed) .none kV12 dc12 pm12 an12 cd12 ct12), sl12⟩)
    (c12 : PySem.W.codeIn K cd12 "_is_deed" = true)
    (k12 : PySem.W.keepIn K (.ref f12) = true)
    (a13 : PySem.W.nsIn K mainGlobals "_law_well" = some (some (.ref f13)))
    (l13 : K.lookup f13 = some ⟨oc13, od13, .func (PySem.W.fnOf "_law_well" "_law_well" (defArgs sLawWell) (defBody sLawWell) (defScope sLawWell) .none kV13 dc13 pm13 an13 cd13 ct13), sl13⟩)
    (c13 : PySem.W.codeIn K cd13 "_law_well" = true)
    (k13 : PySem.W.keepIn K (.ref f13) = true)
    (a14 : PySem.W.nsIn K mainGlobals "_law_draw" = some (some (.ref f14)))
    (l14 : K.lookup f14 = some ⟨oc14, od14, .func (PySem.W.fnOf "_law_draw" "_law_draw" (defArgs sLawDraw) (defBody sLawDraw) (defScope sLawDraw) .none kV14 dc14 pm14 an14 cd14 ct14), sl14⟩)
    (c14 : PySem.W.codeIn K cd14 "_law_draw" = true)
    (k14 : PySem.W.keepIn K (.ref f14) = true)
    (a15 : PySem.W.nsIn K mainGlobals "_law_sign" = some (some (.ref f15)))
    (l15 : K.lookup f15 = some ⟨oc15, od15, .func (PySem.W.fnOf "_law_sign" "_law_sign" (defArgs sLawSign) (defBody sLawSign) (defScope sLawSign) .none kV15 dc15 pm15 an15 cd15 ct15), sl15⟩)
    (c15 : PySem.W.codeIn K cd15 "_law_sign" = true)
    (k15 : PySem.W.keepIn K (.ref f15) = true)
    (a16 : PySem.W.nsIn K mainGlobals "_law_few" = some (some (.ref f16)))
    (l16 : K.lookup f16 = some ⟨oc16, od16, .func (PySem.W.fnOf "_law_few" "_law_few" (defArgs sLawFew) (defBody sLawFew) (defScope sLawFew) .none kV16 dc16 pm16 an16 cd16 ct16), sl16⟩)
    (c16 : PySem.W.codeIn K cd16 "_law_few" = true)
    (k16 : PySem.W.keepIn K (.ref f16) = true)
    (a17 : PySem.W.nsIn K mainGlobals "_law_step" = some (some (.ref f17)))
    (l17 : K.lookup f17 = some ⟨oc17, od17, .func (PySem.W.fnOf "_law_step" "_law_step" (defArgs sLawStep) (defBody sLawStep) (defScope sLawStep) .none kV17 dc17 pm17 an17 cd17 ct17), sl17⟩)
    (c17 : PySem.W.codeIn K cd17 "_law_step" = true)
    (k17 : PySem.W.keepIn K (.ref f17) = true)
    (a18 : PySem.W.nsIn K mainGlobals "_law_steps" = some (some (.ref f18)))
    (l18 : K.lookup f18 = some ⟨oc18, od18, .func (PySem.W.fnOf "_law_steps" "_law_steps" (defArgs sLawSteps) (defBody sLawSteps) (defScope sLawSteps) .none kV18 dc18 pm18 an18 cd18 ct18), sl18⟩)
    (c18 : PySem.W.codeIn K cd18 "_law_steps" = true)
    (k18 : PySem.W.keepIn K (.ref f18) = true)
    (a19 : PySem.W.nsIn K mainGlobals "_law_near" = some (some (.ref f19)))
    (l19 : K.lookup f19 = some ⟨oc19, od19, .func (PySem.W.fnOf "_law_near" "_law_near" (defArgs sLawNear) (defBody sLawNear) (defScope sLawNear) .none kV19 dc19 pm19 an19 cd19 ct19), sl19⟩)
    (c19 : PySem.W.codeIn K cd19 "_law_near" = true)
    (k19 : PySem.W.keepIn K (.ref f19) = true)
    (a20 : PySem.W.nsIn K mainGlobals "_law_four" = some (some (.ref f20)))
    (l20 : K.lookup f20 = some ⟨oc20, od20, .func (PySem.W.fnOf "_law_four" "_law_four" (defArgs sLawFour) (defBody sLawFour) (defScope sLawFour) .none kV20 dc20 pm20 an20 cd20 ct20), sl20⟩)
    (c20 : PySem.W.codeIn K cd20 "_law_four" = true)
    (k20 : PySem.W.keepIn K (.ref f20) = true)
    (a21 : PySem.W.nsIn K mainGlobals "_law_text" = some (some (.ref f21)))
    (l21 : K.lookup f21 = some ⟨oc21, od21, .func (PySem.W.fnOf "_law_text" "_law_text" (defArgs sLawText) (defBody sLawText) (defScope sLawText) .none kV21 dc21 pm21 an21 cd21 ct21), sl21⟩)
    (c21 : PySem.W.codeIn K cd21 "_law_text" = true)
    (k21 : PySem.W.keepIn K (.ref f21) = true)
    (a22 : PySem.W.nsIn K mainGlobals "_law_deeds" = some (some (.ref f22)))
    (l22 : K.lookup f22 = some ⟨oc22, od22, .func (PySem.W.fnOf "_law_deeds" "_law_deeds" (defArgs sLawDeeds) (defBody sLawDeeds) (defScope sLawDeeds) .none kV22 dc22 pm22 an22 cd22 ct22), sl22⟩)
    (c22 : PySem.W.codeIn K cd22 "_law_deeds" = true)
    (k22 : PySem.W.keepIn K (.ref f22) = true)
    (a23 : PySem.W.nsIn K mainGlobals "_law_doors" = some (some (.ref f23)))
    (l23 : K.lookup f23 = some ⟨oc23, od23, .func (PySem.W.fnOf "_law_doors" "_law_doors" (defArgs sLawDoors) (defBody sLawDoors) (defScope sLawDoors) .none kV23 dc23 pm23 an23 cd23 ct23), sl23⟩)
    (c23 : PySem.W.codeIn K cd23 "_law_doors" = true)
    (k23 : PySem.W.keepIn K (.ref f23) = true)
    (a24 : PySem.W.nsIn K mainGlobals "_law_made" = some (some (.ref f24)))
    (l24 : K.lookup f24 = some ⟨oc24, od24, .func (PySem.W.fnOf "_law_made" "_law_made" (defArgs sLawMade) (defBody sLawMade) (defScope sLawMade) .none kV24 dc24 pm24 an24 cd24 ct24), sl24⟩)
    (c24 : PySem.W.codeIn K cd24 "_law_made" = true)
    (k24 : PySem.W.keepIn K (.ref f24) = true)
    (a25 : PySem.W.nsIn K mainGlobals "_law_fold" = some (some (.ref f25)))
    (l25 : K.lookup f25 = some ⟨oc25, od25, .func (PySem.W.fnOf "_law_fold" "_law_fold" (defArgs sLawFold) (defBody sLawFold) (defScope sLawFold) .none kV25 dc25 pm25 an25 cd25 ct25), sl25⟩)
    (c25 : PySem.W.codeIn K cd25 "_law_fold" = true)
    (k25 : PySem.W.keepIn K (.ref f25) = true)
    (a26 : PySem.W.nsIn K mainGlobals "_law_truths" = some (some (.ref f26)))
    (l26 : K.lookup f26 = some ⟨oc26, od26, .func (PySem.W.fnOf "_law_truths" "_law_truths" (defArgs sLawTruths) (defBody sLawTruths) (defScope sLawTruths) .none kV26 dc26 pm26 an26 cd26 ct26), sl26⟩)
    (c26 : PySem.W.codeIn K cd26 "_law_truths" = true)
    (k26 : PySem.W.keepIn K (.ref f26) = true)
    (a27 : PySem.W.nsIn K mainGlobals "_law_walk" = some (some (.ref f27)))
    (l27 : K.lookup f27 = some ⟨oc27, od27, .func (PySem.W.fnOf "_law_walk" "_law_walk" (defArgs sLawWalk) (defBody sLawWalk) (defScope sLawWalk) .none kV27 dc27 pm27 an27 cd27 ct27), sl27⟩)
    (c27 : PySem.W.codeIn K cd27 "_law_walk" = true)
    (k27 : PySem.W.keepIn K (.ref f27) = true)
    (a28 : PySem.W.nsIn K mainGlobals "_are_names" = some (some (.ref f28)))
    (l28 : K.lookup f28 = some ⟨oc28, od28, .func (PySem.W.fnOf "_are_names" "_are_names" (defArgs sAreNames) (defBody sAreNames) (defScope sAreNames) .none kV28 dc28 pm28 an28 cd28 ct28), sl28⟩)
    (c28 : PySem.W.codeIn K cd28 "_are_names" = true)
    (k28 : PySem.W.keepIn K (.ref f28) = true)
    (a29 : PySem.W.nsIn K mainGlobals "wished" = some (some (.ref f29)))
    (l29 : K.lookup f29 = some ⟨oc29, od29, .func (PySem.W.fnOf "wished" "wished" (defArgs sWished) (defBody sWished) (defScope sWished) .none kV29 dc29 pm29 an29 cd29 ct29), sl29⟩)
    (c29 : PySem.W.codeIn K cd29 "wished" = true)
    (k29 : PySem.W.keepIn K (.ref f29) = true)
    (a30 : PySem.W.nsIn K mainGlobals "_law_no_text" = some (some (.ref f30)))
    (l30 : K.lookup f30 = some ⟨oc30, od30, .func (PySem.W.fnOf "_law_no_text" "_law_no_text" (defArgs sLawNoText) (defBody sLawNoText) (defScope sLawNoText) .none kV30 dc30 pm30 an30 cd30 ct30), sl30⟩)
    (c30 : PySem.W.codeIn K cd30 "_law_no_text" = true)
    (k30 : PySem.W.keepIn K (.ref f30) = true)
    (a31 : PySem.W.nsIn K mainGlobals "_law_no_deed" = some (some (.ref f31)))
    (l31 : K.lookup f31 = some ⟨oc31, od31, .func (PySem.W.fnOf "_law_no_deed" "_law_no_deed" (defArgs sLawNoDeed) (defBody sLawNoDeed) (defScope sLawNoDeed) .none kV31 dc31 pm31 an31 cd31 ct31), sl31⟩)
    (c31 : PySem.W.codeIn K cd31 "_law_no_deed" = true)
    (k31 : PySem.W.keepIn K (.ref f31) = true)
    (a32 : PySem.W.nsIn K mainGlobals "_law_refused" = some (some (.ref f32)))
    (l32 : K.lookup f32 = some ⟨oc32, od32, .func (PySem.W.fnOf "_law_refused" "_law_refused" (defArgs sLawRefused) (defBody sLawRefused) (defScope sLawRefused) .none kV32 dc32 pm32 an32 cd32 ct32), sl32⟩)
    (c32 : PySem.W.codeIn K cd32 "_law_refused" = true)
    (k32 : PySem.W.keepIn K (.ref f32) = true)
    (a33 : PySem.W.nsIn K mainGlobals "law" = some (some (.ref f33)))
    (l33 : K.lookup f33 = some ⟨oc33, od33, .func (PySem.W.fnOf "law" "law" (defArgs sLaw) (defBody sLaw) (defScope sLaw) .none kV33 dc33 pm33 an33 cd33 ct33), sl33⟩)
    (c33 : PySem.W.codeIn K cd33 "law" = true)
    (k33 : PySem.W.keepIn K (.ref f33) = true)
    (aC : PySem.W.nsIn K mainGlobals "Folding" = some (some (.ref C)))
    (aD : PySem.W.nsIn K mainGlobals "Doors" = some (some (.ref D)))
    (gN : PySem.W.nsIn K mainGlobals "NoDeed" = some (some (.ref CN)))
    (gP : PySem.W.nsIn K mainGlobals "PlainError" = some (some (.ref CP)))
    (a_0 : PySem.W.findIn K (.ref C) "__init__" = some (some (.ref g0)))
    (i_0 : PySem.W.isFn K (.ref g0) = true)
    (l_0 : K.lookup g0 = some ⟨oc_0, od_0, .func (PySem.W.fnOf "__init__" "Folding.__init__" (defArgs sFoldingInit) (defBody sFoldingInit) (defScope sFoldingInit) (.ref Td) kV_0 dc_0 pm_0 an_0 cd_0 ct_0), sl_0⟩)
    (c_0 : PySem.W.codeIn K cd_0 "Folding.__init__" = true)
    (k_0 : PySem.W.keepIn K (.ref g0) = true)
    (lT : K.lookup Td = some ⟨ocT, odT, .seq #[.ref Ed] nT, slT⟩)
    (a_1 : PySem.W.findIn K (.ref C) "__call__" = some (some (.ref g1)))
    (i_1 : PySem.W.isFn K (.ref g1) = true)
    (l_1 : K.lookup g1 = some ⟨oc_1, od_1, .func (PySem.W.fnOf "__call__" "Folding.__call__" (defArgs sFoldingCall) (defBody sFoldingCall) (defScope sFoldingCall) .none kV_1 dc_1 pm_1 an_1 cd_1 ct_1), sl_1⟩)
    (c_1 : PySem.W.codeIn K cd_1 "Folding.__call__" = true)
    (k_1 : PySem.W.keepIn K (.ref g1) = true)
    (fi_1 : PySem.W.fnIn K g1 = true)
    (a_2 : PySem.W.findIn K (.ref C) "__len__" = some (some (.ref g2)))
    (i_2 : PySem.W.isFn K (.ref g2) = true)
    (l_2 : K.lookup g2 = some ⟨oc_2, od_2, .func (PySem.W.fnOf "__len__" "Folding.__len__" (defArgs sFoldingLen) (defBody sFoldingLen) (defScope sFoldingLen) .none kV_2 dc_2 pm_2 an_2 cd_2 ct_2), sl_2⟩)
    (c_2 : PySem.W.codeIn K cd_2 "Folding.__len__" = true)
    (k_2 : PySem.W.keepIn K (.ref g2) = true)
    (a_3 : PySem.W.findIn K (.ref C) "steps" = some (some (.ref g3)))
    (i_3 : PySem.W.isFn K (.ref g3) = true)
    (l_3 : K.lookup g3 = some ⟨oc_3, od_3, .func (PySem.W.fnOf "steps" "Folding.steps" (defArgs sFoldingSteps) (defBody sFoldingSteps) (defScope sFoldingSteps) .none kV_3 dc_3 pm_3 an_3 cd_3 ct_3), sl_3⟩)
    (c_3 : PySem.W.codeIn K cd_3 "Folding.steps" = true)
    (k_3 : PySem.W.keepIn K (.ref g3) = true)
    (a_4 : PySem.W.findIn K (.ref D) "__init__" = some (some (.ref g4)))
    (i_4 : PySem.W.isFn K (.ref g4) = true)
    (l_4 : K.lookup g4 = some ⟨oc_4, od_4, .func (PySem.W.fnOf "__init__" "Doors.__init__" (defArgs sDoorsInit) (defBody sDoorsInit) (defScope sDoorsInit) .none kV_4 dc_4 pm_4 an_4 cd_4 ct_4), sl_4⟩)
    (c_4 : PySem.W.codeIn K cd_4 "Doors.__init__" = true)
    (k_4 : PySem.W.keepIn K (.ref g4) = true)
    (a_5 : PySem.W.findIn K (.ref D) "put" = some (some (.ref g5)))
    (i_5 : PySem.W.isFn K (.ref g5) = true)
    (l_5 : K.lookup g5 = some ⟨oc_5, od_5, .func (PySem.W.fnOf "put" "Doors.put" (defArgs sDoorsPut) (defBody sDoorsPut) (defScope sDoorsPut) .none kV_5 dc_5 pm_5 an_5 cd_5 ct_5), sl_5⟩)
    (c_5 : PySem.W.codeIn K cd_5 "Doors.put" = true)
    (k_5 : PySem.W.keepIn K (.ref g5) = true)
    (a_6 : PySem.W.findIn K (.ref D) "find" = some (some (.ref g6)))
    (i_6 : PySem.W.isFn K (.ref g6) = true)
    (l_6 : K.lookup g6 = some ⟨oc_6, od_6, .func (PySem.W.fnOf "find" "Doors.find" (defArgs sDoorsFind) (defBody sDoorsFind) (defScope sDoorsFind) .none kV_6 dc_6 pm_6 an_6 cd_6 ct_6), sl_6⟩)
    (c_6 : PySem.W.codeIn K cd_6 "Doors.find" = true)
    (k_6 : PySem.W.keepIn K (.ref g6) = true)
    (a_7 : PySem.W.findIn K (.ref D) "strike" = some (some (.ref g7)))
    (i_7 : PySem.W.isFn K (.ref g7) = true)
    (l_7 : K.lookup g7 = some ⟨oc_7, od_7, .func (PySem.W.fnOf "strike" "Doors.strike" (defArgs sDoorsStrike) (defBody sDoorsStrike) (defScope sDoorsStrike) .none kV_7 dc_7 pm_7 an_7 cd_7 ct_7), sl_7⟩)
    (c_7 : PySem.W.codeIn K cd_7 "Doors.strike" = true)
    (k_7 : PySem.W.keepIn K (.ref g7) = true)
    (a_8 : PySem.W.findIn K (.ref D) "wish" = some (some (.ref g8)))
    (i_8 : PySem.W.isFn K (.ref g8) = true)
    (l_8 : K.lookup g8 = some ⟨oc_8, od_8, .func (PySem.W.fnOf "wish" "Doors.wish" (defArgs sDoorsWish) (defBody sDoorsWish) (defScope sDoorsWish) .none kV_8 dc_8 pm_8 an_8 cd_8 ct_8), sl_8⟩)
    (c_8 : PySem.W.codeIn K cd_8 "Doors.wish" = true)
    (k_8 : PySem.W.keepIn K (.ref g8) = true)
    (a_9 : PySem.W.findIn K (.ref D) "folded" = some (some (.ref g9)))
    (i_9 : PySem.W.isFn K (.ref g9) = true)
    (l_9 : K.lookup g9 = some ⟨oc_9, od_9, .func (PySem.W.fnOf "folded" "Doors.folded" (defArgs sDoorsFolded) (defBody sDoorsFolded) (defScope sDoorsFolded) .none kV_9 dc_9 pm_9 an_9 cd_9 ct_9), sl_9⟩)
    (c_9 : PySem.W.codeIn K cd_9 "Doors.folded" = true)
    (k_9 : PySem.W.keepIn K (.ref g9) = true)
    (a_10 : PySem.W.findIn K (.ref CN) "__init__" = some (some (.ref g10)))
    (i_10 : PySem.W.isFn K (.ref g10) = true)
    (l_10 : K.lookup g10 = some ⟨oc_10, od_10, .func (PySem.W.fnOf "__init__" "NoDeed.__init__" (defArgs sNodeedInit) (defBody sNodeedInit) (defScope sNodeedInit) .none kV_10 dc_10 pm_10 an_10 cd_10 ct_10), sl_10⟩)
    (c_10 : PySem.W.codeIn K cd_10 "NoDeed.__init__" = true)
    (k_10 : PySem.W.keepIn K (.ref g10) = true)
    (pg : PySem.W.plainGet K C Str.empty = true)
    (hd : PySem.W.hasDictIn K C = true)
    (po : PySem.W.plainOver K C = true)
    (sa : PySem.W.findIn K (.ref C) "__setattr__" = some (some (.builtin "object.__setattr__")))
    (mkC : PySem.W.makesIn K C = true)
    (kc : PySem.W.keepIn K (.ref C) = true)
    (pgD : PySem.W.plainGet K D Str.empty = true)
    (hdD : PySem.W.hasDictIn K D = true)
    (poD : PySem.W.plainOver K D = true)
    (saD : PySem.W.findIn K (.ref D) "__setattr__" = some (some (.builtin "object.__setattr__")))
    (mkD : PySem.W.makesIn K D = true)
    (kcD : PySem.W.keepIn K (.ref D) = true)
    (nD0 : PySem.W.findIn K (.ref D) "_put" = some none)
    (nD1 : PySem.W.findIn K (.ref D) "_find" = some none)
    (nD2 : PySem.W.findIn K (.ref D) "_strike" = some none)
    (nD3 : PySem.W.findIn K (.ref D) "_wish" = some none)
    (xN : PySem.W.nsIn K mainGlobals "NAMES" = some (some (.ref Nd)))
    (lN : K.lookup Nd = some ⟨.type "tuple", odN, .seq #[.str "put" u1, .str "find" u2, .str "strike" u3] nN, slN⟩)
    (nl : PySem.W.nsIn K mainGlobals "list" = some none)
    (gC1 : PySem.W.nsIn K mainGlobals "NoDoor" = some (some (.ref C1)))
    (gC2 : PySem.W.nsIn K mainGlobals "NoForm" = some (some (.ref C2)))
    (gC3 : PySem.W.nsIn K mainGlobals "NoLine" = some (some (.ref C3)))
    (gC4 : PySem.W.nsIn K mainGlobals "NoPart" = some (some (.ref C4)))
    (gC5 : PySem.W.nsIn K mainGlobals "NoStep" = some (some (.ref C5)))
    (gC6 : PySem.W.nsIn K mainGlobals "NoText" = some (some (.ref C6)))
    (gC7 : PySem.W.nsIn K mainGlobals "NothingToUndo" = some (some (.ref C7)))
    (nV : PySem.W.nsIn K mainGlobals "ValueError" = some none)
    (lC : K.lookup CN = some (excClassObj nm qn CN NN bs bm true sn sub ab col dd q0 q1 q2 q3 q5 "ValueError.__new__"))
    (rV : PySem.HandSPX.refsVE bm = true)
    (sX : PySem.W.findIn K (.ref CN) "__setattr__" = some (some (.builtin "object.__setattr__")))
    (iX : PySem.W.findIn K (.ref CN) "index" = some none)
    (tG : PySem.W.typeIn K (.ref g10) = some (.type "function"))
    (rg : PySem.W.specialIn K (.ref CP) "__getattribute__" = some (some (.builtin "type.__getattribute__")))
    (rd : PySem.W.readsIn K CP (.type "type") = true)
    (vV : PySem.W.findCls K (.ref CP) (.type "type") "__init__" = some (.val (.builtin "ValueError.__init__")))
    (kN : PySem.W.keepIn K (.ref CN) = true)
    (bN : PySem.W.subIn K (.ref CN) (.type "BaseException") = some true)
    (tN : PySem.W.typeIn K (.ref CN) = some (.type "type"))
    (bP : PySem.W.subIn K (.ref CP) (.type "BaseException") = some true)
    (dP : PySem.W.hasDictIn K CP = true)
    (tP : PySem.W.typeIn K (.ref CP) = some (.type "type"))
    (sNP : PySem.W.subIn K (.ref CN) (.ref CP) = some true)
    (eg : PySem.W.findIn K (.ref CN) "__getattribute__" = some (some (.builtin "BaseException.__getattribute__")))
    (ek : PySem.W.findIn K (.ref CN) "__getattr__" = some none)
    (ed : PySem.W.hasDictIn K CN = true)
    (ea : PySem.W.findIn K (.ref CN) "__class__" = some (some (.builtin "object.__class__")))
    (en : PySem.W.specialIn K (.builtin "object.__class__") "__get__" = some (some (.builtin "getset_descriptor.__get__")))
    (et : PySem.W.takesIn K (.builtin "object.__class__") = some true)
    (em : PySem.W.mroIn K CN (.type "object") = some true)
    (sNV : PySem.W.subIn K (.ref CN) (.type "ValueError") = some true)
    (sN : PySem.W.subIn K (.ref CN) (.ref CN) = some true)
    (iC1 : PySem.W.isClsIn K C1 = true)
    (iC2 : PySem.W.isClsIn K C2 = true)
    (iC3 : PySem.W.isClsIn K C3 = true)
    (iC4 : PySem.W.isClsIn K C4 = true)
    (iC5 : PySem.W.isClsIn K C5 = true)
    (iC6 : PySem.W.isClsIn K C6 = true)
    (iC7 : PySem.W.isClsIn K C7 = true)
    (tC1 : PySem.W.typeIn K (.ref C1) = some (.type "type"))
    (tC2 : PySem.W.typeIn K (.ref C2) = some (.type "type"))
    (tC3 : PySem.W.typeIn K (.ref C3) = some (.type "type"))
    (tC4 : PySem.W.typeIn K (.ref C4) = some (.type "type"))
    (tC5 : PySem.W.typeIn K (.ref C5) = some (.type "type"))
    (tC6 : PySem.W.typeIn K (.ref C6) = some (.type "type"))
    (tC7 : PySem.W.typeIn K (.ref C7) = some (.type "type"))
    (sC1 : PySem.W.subIn K (.ref CN) (.ref C1) = some false)
    (sC2 : PySem.W.subIn K (.ref CN) (.ref C2) = some false)
    (sC3 : PySem.W.subIn K (.ref CN) (.ref C3) = some false)
    (sC4 : PySem.W.subIn K (.ref CN) (.ref C4) = some false)
    (sC5 : PySem.W.subIn K (.ref CN) (.ref C5) = some false)
    (sC6 : PySem.W.subIn K (.ref CN) (.ref C6) = some false)
    (sC7 : PySem.W.subIn K (.ref CN) (.ref C7) = some false)
    (n0 : PySem.W.findIn K (.ref C) "_steps" = some none)
    (v0 : PySem.W.nsIn K mainGlobals "CHARACTERS" = some (some (.str "abcdefghijklmnopqrstuvwxyzABCDEFGHIJKLMNOPQRSTUVWXYZ0123456789 -._/'" t0)))
    (v1 : PySem.W.nsIn K mainGlobals "LONGEST_TEXT" = some (some (.int 60 t1)))
    (v2 : PySem.W.nsIn K mainGlobals "MOST_DROPPED" = some (some (.int 10 t2)))
    (v3 : PySem.W.nsIn K mainGlobals "LONGEST_CUT" = some (some (.int 9 t3)))
    (v4 : PySem.W.nsIn K mainGlobals "MOST_STEPS" = some (some (.int 6 t4)))
    (z0 : PySem.W.nsIn K mainGlobals "len" = some none)
    (z1 : PySem.W.nsIn K mainGlobals "int" = some none)
    (z2 : PySem.W.nsIn K mainGlobals "abs" = some none)
    (z3 : PySem.W.nsIn K mainGlobals "max" = some none)
    (z4 : PySem.W.nsIn K mainGlobals "min" = some none)
    (z5 : PySem.W.nsIn K mainGlobals "range" = some none)
    (z6 : PySem.W.nsIn K mainGlobals "isinstance" = some none)
    (z7 : PySem.W.nsIn K mainGlobals "str" = some none)
    (z8 : PySem.W.nsIn K mainGlobals "tuple" = some none)
    (z9 : PySem.W.nsIn K mainGlobals "bool" = some none)
    (z10 : PySem.W.nsIn K mainGlobals "all" = some none)
    (z11 : PySem.W.nsIn K mainGlobals "set" = some none)
    (z12 : PySem.W.nsIn K mainGlobals "enumerate" = some none)
    (zs : PySem.W.nsIn K cStatics sharingNotToldKey = some none) :
    ∃ fd : FuncData, (∀ (s : Shared) (v : Value), BindsTo s fd ⟨[v], []⟩ [("script", v)]) ∧ ∀ base : Heap, K.In base → base.Ns mainGlobals mg → FnOk l.prog w K mg base CX0 8 fa fd ["script"] (spLaw K) := by
  have e := hfa.symm.trans (PySem.W.mg_of X G a33)
  cases e
  have T : Nms mg := by
    constructor
    · exact PySem.W.mg_none_of X G z0
    · exact PySem.W.mg_none_of X G z1
    · exact PySem.W.mg_none_of X G z2
    · exact PySem.W.mg_none_of X G z3
    · exact PySem.W.mg_none_of X G z4
    · exact PySem.W.mg_none_of X G z5
    · exact PySem.W.mg_none_of X G z6
    · exact PySem.W.mg_none_of X G z7
    · exact PySem.W.mg_none_of X G z8
    · exact PySem.W.mg_none_of X G z9
    · exact PySem.W.mg_none_of X G z10
    · exact PySem.W.mg_none_of X G z11
    · exact PySem.W.mg_none_of X G z12
  have Cs : Cst mg := by
    constructor
    · exact ⟨_, PySem.W.mg_of X G v0⟩
    · exact ⟨_, PySem.W.mg_of X G v1⟩
    · exact ⟨_, PySem.W.mg_of X G v2⟩
    · exact ⟨_, PySem.W.mg_of X G v3⟩
    · exact ⟨_, PySem.W.mg_of X G v4⟩
  have F0 := fun_mk (st := sIsCharacter) l0 c0 k0
  have b0 := F0.binds (ps := ["value"]) fun _ _ _ _ _ _ us hl => match us, hl with | [_], _ => rfl
  have m0 := PySem.W.mg_of X G a0
  have F1 := fun_mk (st := sIsText) l1 c1 k1
  have b1 := F1.binds (ps := ["value"]) fun _ _ _ _ _ _ us hl => match us, hl with | [_], _ => rfl
  have m1 := PySem.W.mg_of X G a1
  have F2 := fun_mk (st := sIsInteger) l2 c2 k2
  have b2 := F2.binds (ps := ["value"]) fun _ _ _ _ _ _ us hl => match us, hl with | [_], _ => rfl
  have m2 := PySem.W.mg_of X G a2
  have F3 := fun_mk (st := sIsStep) l3 c3 k3
  have b3 := F3.binds (ps := ["value"]) fun _ _ _ _ _ _ us hl => match us, hl with | [_], _ => rfl
  have m3 := PySem.W.mg_of X G a3
  have F4 := fun_mk (st := sIsChoice) l4 c4 k4
  have b4 := F4.binds (ps := ["value"]) fun _ _ _ _ _ _ us hl => match us, hl with | [_], _ => rfl
  have m4 := PySem.W.mg_of X G a4
  have F5 := fun_mk (st := sMadeBySteps) l5 c5 k5
  have b5 := F5.binds (ps := ["steps", "text"]) fun _ _ _ _ _ _ us hl => match us, hl with | [_, _], _ => rfl
  have m5 := PySem.W.mg_of X G a5
  have F6 := fun_mk (st := sMadeByStep) l6 c6 k6
  have b6 := F6.binds (ps := ["step", "text"]) fun _ _ _ _ _ _ us hl => match us, hl with | [_, _], _ => rfl
  have m6 := PySem.W.mg_of X G a6
  have F7 := fun_mk (st := sOnce) l7 c7 k7
  have b7 := F7.binds (ps := ["text", "single"]) fun _ _ _ _ _ _ us hl => match us, hl with | [_, _], _ => rfl
  have m7 := PySem.W.mg_of X G a7
  have F8 := fun_mk (st := sAnswers) l8 c8 k8
  have b8 := F8.binds (ps := ["doors", "deeds"]) fun _ _ _ _ _ _ us hl => match us, hl with | [_, _], _ => rfl
  have m8 := PySem.W.mg_of X G a8
  have F9 := fun_mk (st := sFoldingsOf) l9 c9 k9
  have b9 := F9.binds (ps := ["doors"]) fun _ _ _ _ _ _ us hl => match us, hl with | [_], _ => rfl
  have m9 := PySem.W.mg_of X G a9
  have F10 := fun_mk (st := sIsName) l10 c10 k10
  have b10 := F10.binds (ps := ["value"]) fun _ _ _ _ _ _ us hl => match us, hl with | [_], _ => rfl
  have m10 := PySem.W.mg_of X G a10
  have F11 := fun_mk (st := sCheckDeeds) l11 c11 k11
  have b11 := F11.binds (ps := ["value"]) fun _ _ _ _ _ _ us hl => match us, hl with | [_], _ => rfl
  have m11 := PySem.W.mg_of X G a11
  have F12 := fun_mk (st := sIsDeed) l12 c12 k12
  have b12 := F12.binds (ps := ["value"]) fun _ _ _ _ _ _ us hl => match us, hl with | [_], _ => rfl
  have m12 := PySem.W.mg_of X G a12
  have F13 := fun_mk (st := sLawWell) l13 c13 k13
  have b13 := F13.binds (ps := ["script", "k"]) fun _ _ _ _ _ _ us hl => match us, hl with | [_, _], _ => rfl
  have m13 := PySem.W.mg_of X G a13
  have F14 := fun_mk (st := sLawDraw) l14 c14 k14
  have b14 := F14.binds (ps := ["well", "many"]) fun _ _ _ _ _ _ us hl => match us, hl with | [_, _], _ => rfl
  have m14 := PySem.W.mg_of X G a14
  have F15 := fun_mk (st := sLawSign) l15 c15 k15
  have b15 := F15.binds (ps := ["well"]) fun _ _ _ _ _ _ us hl => match us, hl with | [_], _ => rfl
  have m15 := PySem.W.mg_of X G a15
  have F16 := fun_mk (st := sLawFew) l16 c16 k16
  have b16 := F16.binds (ps := ["well"]) fun _ _ _ _ _ _ us hl => match us, hl with | [_], _ => rfl
  have m16 := PySem.W.mg_of X G a16
  have F17 := fun_mk (st := sLawStep) l17 c17 k17
  have b17 := F17.binds (ps := ["well", "few", "longest"]) fun _ _ _ _ _ _ us hl => match us, hl with | [_, _, _], _ => rfl
  have m17 := PySem.W.mg_of X G a17
  have F18 := fun_mk (st := sLawSteps) l18 c18 k18
  have b18 := F18.binds (ps := ["well", "few", "most", "longest"]) fun _ _ _ _ _ _ us hl => match us, hl with | [_, _, _, _], _ => rfl
  have m18 := PySem.W.mg_of X G a18
  have F19 := fun_mk (st := sLawNear) l19 c19 k19
  have b19 := F19.binds (ps := ["well", "few", "steps", "longest"]) fun _ _ _ _ _ _ us hl => match us, hl with | [_, _, _, _], _ => rfl
  have m19 := PySem.W.mg_of X G a19
  have F20 := fun_mk (st := sLawFour) l20 c20 k20
  have b20 := F20.binds (ps := ["well", "few", "most", "longest"]) fun _ _ _ _ _ _ us hl => match us, hl with | [_, _, _, _], _ => rfl
  have m20 := PySem.W.mg_of X G a20
  have F21 := fun_mk (st := sLawText) l21 c21 k21
  have b21 := F21.binds (ps := ["well", "few"]) fun _ _ _ _ _ _ us hl => match us, hl with | [_, _], _ => rfl
  have m21 := PySem.W.mg_of X G a21
  have F22 := fun_mk (st := sLawDeeds) l22 c22 k22
  have b22 := F22.binds (ps := ["script", "start", "well", "few", "most"]) fun _ _ _ _ _ _ us hl => match us, hl with | [_, _, _, _, _], _ => rfl
  have m22 := PySem.W.mg_of X G a22
  have F23 := fun_mk (st := sLawDoors) l23 c23 k23
  have b23 := F23.binds (ps := ["four"]) fun _ _ _ _ _ _ us hl => match us, hl with | [_], _ => rfl
  have m23 := PySem.W.mg_of X G a23
  have F24 := fun_mk (st := sLawMade) l24 c24 k24
  have b24 := F24.binds (ps := ["step", "text"]) fun _ _ _ _ _ _ us hl => match us, hl with | [_, _], _ => rfl
  have m24 := PySem.W.mg_of X G a24
  have F25 := fun_mk (st := sLawFold) l25 c25 k25
  have b25 := F25.binds (ps := ["steps", "text"]) fun _ _ _ _ _ _ us hl => match us, hl with | [_, _], _ => rfl
  have m25 := PySem.W.mg_of X G a25
  have F26 := fun_mk (st := sLawTruths) l26 c26 k26
  have b26 := F26.binds (ps := ["told", "due"]) fun _ _ _ _ _ _ us hl => match us, hl with | [_, _], _ => rfl
  have m26 := PySem.W.mg_of X G a26
  have F27 := fun_mk (st := sLawWalk) l27 c27 k27
  have b27 := F27.binds (ps := ["four", "acts"]) fun _ _ _ _ _ _ us hl => match us, hl with | [_, _], _ => rfl
  have m27 := PySem.W.mg_of X G a27
  have F28 := fun_mk (st := sAreNames) l28 c28 k28
  have b28 := F28.binds (ps := ["value"]) fun _ _ _ _ _ _ us hl => match us, hl with | [_], _ => rfl
  have m28 := PySem.W.mg_of X G a28
  have F29 := fun_mk (st := sWished) l29 c29 k29
  have b29 := F29.binds (ps := ["doors", "deeds"]) fun _ _ _ _ _ _ us hl => match us, hl with | [_, _], _ => rfl
  have m29 := PySem.W.mg_of X G a29
  have F30 := fun_mk (st := sLawNoText) l30 c30 k30
  have b30 := F30.binds (ps := ["well", "few"]) fun _ _ _ _ _ _ us hl => match us, hl with | [_, _], _ => rfl
  have m30 := PySem.W.mg_of X G a30
  have F31 := fun_mk (st := sLawNoDeed) l31 c31 k31
  have b31 := F31.binds (ps := ["well", "few"]) fun _ _ _ _ _ _ us hl => match us, hl with | [_, _], _ => rfl
  have m31 := PySem.W.mg_of X G a31
  have F32 := fun_mk (st := sLawRefused) l32 c32 k32
  have b32 := F32.binds (ps := ["is_wish", "house", "acts"]) fun _ _ _ _ _ _ us hl => match us, hl with | [_, _, _], _ => rfl
  have m32 := PySem.W.mg_of X G a32
  have F33 := fun_mk (st := sLaw) l33 c33 k33
  have b33 := F33.binds (ps := ["script"]) fun _ _ _ _ _ _ us hl => match us, hl with | [_], _ => rfl
  have m33 := PySem.W.mg_of X G a33
  have Z : Fcl K mg C := ⟨⟨pg, hd, po, sa⟩, n0, PySem.W.mg_of X G aC⟩
  have FI : FunD K "__init__" "Folding.__init__" (defArgs sFoldingInit) (defBody sFoldingInit) (defScope sFoldingInit) [.ref Ed] [] g0 (PySem.W.fnOf "__init__" "Folding.__init__" (defArgs sFoldingInit) (defBody sFoldingInit) (defScope sFoldingInit) (.ref Td) kV_0 dc_0 pm_0 an_0 cd_0 ct_0) := ⟨⟨_, _, _, _, _, _, _, _, _, _, rfl, l_0, c_0, .inr ⟨List.cons_ne_nil _ _, Td, _, [.ref Ed], nT, rfl, lT, rfl, .cons rfl .nil⟩, .inl rfl⟩, k_0⟩
  have FC := fun_mk (st := sFoldingCall) l_1 c_1 k_1
  have bC := FC.binds (ps := ["self", "text"]) fun _ _ _ _ _ _ us hl => match us, hl with | [_, _], _ => rfl
  have bI : Binds K (PySem.W.fnOf "__init__" "Folding.__init__" (defArgs sFoldingInit) (defBody sFoldingInit) (defScope sFoldingInit) (.ref Td) kV_0 dc_0 pm_0 an_0 cd_0 ct_0) ["self", "steps"] [] := by
    obtain ⟨ds, r, b⟩ := FI.binds1 (ps := ["self", "steps"]) 2 1 (List.cons_ne_nil _ _) rfl fun T kV doc pm an cdv ct us its h1 h2 => match us, its, h1, h2 with
      | [_, _], [_], _, _ => ⟨_, rfl, rfl⟩
    cases r
    exact b
  have FL := fun_mk (st := sFoldingLen) l_2 c_2 k_2
  have bL := FL.binds (ps := ["self"]) fun _ _ _ _ _ _ us hl => match us, hl with | [_], _ => rfl
  have FS := fun_mk (st := sFoldingSteps) l_3 c_3 k_3
  have bS := FS.binds (ps := ["self"]) fun _ _ _ _ _ _ us hl => match us, hl with | [_], _ => rfl
  have ZD : Dcl K mg D := ⟨⟨pgD, hdD, poD, saD⟩, nD0, nD1, nD2, nD3, PySem.W.mg_of X G aD⟩
  have FD0 := fun_mk (st := sDoorsInit) l_4 c_4 k_4
  have bD0 := FD0.binds (ps := ["self", "put", "find", "strike", "wish"]) fun _ _ _ _ _ _ us hl => match us, hl with | [_, _, _, _, _], _ => rfl
  have FD1 := fun_mk (st := sDoorsPut) l_5 c_5 k_5
  have bD1 := FD1.binds (ps := ["self"]) fun _ _ _ _ _ _ us hl => match us, hl with | [_], _ => rfl
  have FD2 := fun_mk (st := sDoorsFind) l_6 c_6 k_6
  have bD2 := FD2.binds (ps := ["self"]) fun _ _ _ _ _ _ us hl => match us, hl with | [_], _ => rfl
  have FD3 := fun_mk (st := sDoorsStrike) l_7 c_7 k_7
  have bD3 := FD3.binds (ps := ["self"]) fun _ _ _ _ _ _ us hl => match us, hl with | [_], _ => rfl
  have FD4 := fun_mk (st := sDoorsWish) l_8 c_8 k_8
  have bD4 := FD4.binds (ps := ["self"]) fun _ _ _ _ _ _ us hl => match us, hl with | [_], _ => rfl
  refine ⟨PySem.W.fnOf "law" "law" (defArgs sLaw) (defBody sLaw) (defScope sLaw) .none kV33 dc33 pm33 an33 cd33 ct33, fun s v => .of_eq rfl, fun base KB GB => ?_⟩
  have Cchar : Cl l.prog w K mg base 1 "is_character" spIsChar := ⟨f0, _, _, ok_isChar F0 T Cs, m0, k0, b0⟩
  have Ctext : Cl l.prog w K mg base 1 "is_text" spIsText := ⟨f1, _, _, ok_isText F1 T Cs, m1, k1, b1⟩
  have Cint : Cl l.prog w K mg base 1 "is_integer" spIsInt := ⟨f2, _, _, ok_isInt F2 T, m2, k2, b2⟩
  have Cchoice : Cl l.prog w K mg base 2 "_is_choice" spIsChoice := ⟨f4, _, _, ok_isChoice F4 T Cs Cchar, m4, k4, b4⟩
  have Cstep : Cl l.prog w K mg base 3 "is_step" spIsStep := ⟨f3, _, _, ok_isStep F3 T Cs Cchar Cchoice Cint, m3, k3, b3⟩
  have Conce : Cl l.prog w K mg base 1 "_once" spOnce := ⟨f7, _, _, ok_once F7 T, m7, k7, b7⟩
  have Cmbs : Cl l.prog w K mg base 2 "made_by_step" spMade := ⟨f6, _, _, ok_madeByStep F6 T zs Conce, m6, k6, b6⟩
  have Cmss : Cl l.prog w K mg base 3 "made_by_steps" (spMadeSteps K) := ⟨f5, _, _, ok_madeBySteps F5 Cmbs, m5, k5, b5⟩
  have Fl : Fol l.prog w K mg base C := ⟨⟨g0, _, ⟨mkC, a_0, i_0, kc⟩, ok_finit FI T Cs Z Cstep, bI⟩, ⟨g1, _, ⟨a_1, i_1, fi_1⟩, ok_fcall FC T Z Ctext Cmss, bC⟩, Z.mgC⟩
  have Fs : FolS l.prog w K mg base C := ⟨Z.cl, ⟨g2, _, a_2, i_2, ok_flen FL T Z, bL⟩, ⟨g3, _, ⟨a_3, i_3, k_3⟩, ok_fsteps FS Z, bS⟩⟩
  have Dd : Drs l.prog w K mg base D := ⟨ZD, ⟨g4, _, ⟨mkD, a_4, i_4, kcD⟩, ok_dinit FD0 ZD, bD0⟩, ⟨g5, _, ⟨a_5, i_5, k_5⟩, ok_dput FD1 ZD, bD1⟩, ⟨g6, _, ⟨a_6, i_6, k_6⟩, ok_dfind FD2 ZD, bD2⟩, ⟨g7, _, ⟨a_7, i_7, k_7⟩, ok_dstrike FD3 ZD, bD3⟩, ⟨g8, _, ⟨a_8, i_8, k_8⟩, ok_dwish FD4 ZD, bD4⟩⟩
  have ml : mg "list" = none := PySem.W.mg_none_of X G nl
  have Cn : CstN K mg := ⟨⟨Nd, PySem.W.mg_of X G xN, fun H => .inr ⟨_, _, nN, lN, rfl, rfl, (show 3 ≤ sizeLine by decide), .cons ⟨_, rfl⟩ (.cons ⟨_, rfl⟩ (.cons ⟨_, rfl⟩ .nil))⟩⟩⟩
  have Cname : Cl l.prog w K mg base 1 "_is_name" spIsName := ⟨f10, _, _, ok_isName F10 T Cn, m10, k10, b10⟩
  have Cdeed : Cl l.prog w K mg base 2 "_is_deed" (spIsDeed K) := ⟨f12, _, _, ok_isDeed F12 T Cname Ctext, m12, k12, b12⟩
  have Ccheck : Cl l.prog w K mg base 3 "_check_deeds" (spCheckDeeds K) := ⟨f11, _, _, ok_checkDeeds F11 T ml Cdeed, m11, k11, b11⟩
  have Cfof : Cl l.prog w K mg base 2 "_foldings_of" (spFoldingsOf K C D) := ⟨f9, _, _, ok_foldingsOf F9 Dd, m9, k9, b9⟩
  have Cans : Cl l.prog w K mg base 5 "answers" (spAnswers K C D) := ⟨f8, _, _, ok_answers F8 T Fl Ccheck Cfof, m8, k8, b8⟩
  have Cwell : Cl l.prog w K mg base 1 "_law_well" (spJar K) := ⟨f13, _, _, ok_cwell F13 T, m13, k13, b13⟩
  have Cdraw : Cl l.prog w K mg base 1 "_law_draw" spDraw := ⟨f14, _, _, ok_cdraw F14 T, m14, k14, b14⟩
  have Csign : ClT l.prog w K mg base 2 "_law_sign" spSign := ⟨f15, ok_sign F15 Cdraw, m15, k15⟩
  have Cfew : ClU l.prog w K mg base 3 "_law_few" spFew := ⟨f16, ok_few F16 Cdraw Csign, m16, k16⟩
  have Ccst : Cl l.prog w K mg base 2 "_law_step" spCstep := ⟨f17, _, _, ok_cstep F17 T Cdraw, m17, k17, b17⟩
  have Crow : Cl l.prog w K mg base 3 "_law_steps" (spCrow K) := ⟨f18, _, _, ok_csteps F18 T Cdraw Ccst, m18, k18, b18⟩
  have Cnear : Cl l.prog w K mg base 3 "_law_near" (spCnear K) := ⟨f19, _, _, ok_cnear F19 T Cdraw Ccst, m19, k19, b19⟩
  have Cfour : Cl l.prog w K mg base 4 "_law_four" (spCfour K) := ⟨f20, _, _, ok_cfour F20 T Cdraw Crow Cnear, m20, k20, b20⟩
  have Ctx : Cl l.prog w K mg base 3 "_law_text" spCtext := ⟨f21, _, _, ok_ctext F21 T Cdraw Csign, m21, k21, b21⟩
  have Cdds : Cl l.prog w K mg base 4 "_law_deeds" (spCdeeds K) := ⟨f22, _, _, ok_cdeeds F22 T Cwell Cdraw Ctx, m22, k22, b22⟩
  have Cdoors : Cl l.prog w K mg base 6 "_law_doors" (spCdoors K C D) := ⟨f23, _, _, ok_cdoors F23 Fl Dd, m23, k23, b23⟩
  have Gm : ∀ n, ∃ g, FnN n l.prog w K mg base 1 g (spCmade n) ∧ mg "_law_made" = some (.ref g) ∧ PySem.W.keepIn K (.ref g) = true := fun n => ⟨f24, ok_cmade n F24 T zs, m24, k24⟩
  have Gf : ∀ n, ∃ g, FnN n l.prog w K mg base 2 g (spCfold K n) ∧ mg "_law_fold" = some (.ref g) ∧ PySem.W.keepIn K (.ref g) = true := fun n => ⟨f25, ok_cfold n F25 (Gm n), m25, k25⟩
  have GW : ∃ g, (∀ n, FnN n l.prog w K mg base 3 g (spCwalk K n)) ∧ mg "_law_walk" = some (.ref g) ∧ PySem.W.keepIn K (.ref g) = true := ⟨f27, fun n => ok_cwalk n F27 (Gf n), m27, k27⟩
  have Ctr : Cl l.prog w K mg base 1 "_law_truths" spTruths2 := ⟨f26, _, _, ok_truths2 F26 T ml, m26, k26, b26⟩
  have Can : Cl l.prog w K mg base 2 "_are_names" (spAreNames K) := ⟨f28, _, _, ok_areNames F28 T Cname, m28, k28, b28⟩
  have FD5 := fun_mk (st := sDoorsFolded) l_9 c_9 k_9
  have bD5 := FD5.binds (ps := ["self", "names"]) fun _ _ _ _ _ _ us hl => match us, hl with | [_, _], _ => rfl
  have Df : DrF l.prog w K mg base C D := ⟨⟨g9, _, ⟨a_9, i_9, k_9⟩, ok_folded' FD5 Dd Can, bD5⟩⟩
  have Cwi : Cl l.prog w K mg base 6 "wished" (spWished K C D) := ⟨f29, _, _, ok_wished F29 Cn Dd Df Cans, m29, k29, b29⟩
  have FNI := fun_mk (st := sNodeedInit) l_10 c_10 k_10
  have bNI := FNI.binds (ps := ["self", "index"]) fun _ _ _ _ _ _ us hl => match us, hl with | [_, _], _ => rfl
  have gPm : mg "PlainError" = some (.ref CP) := PySem.W.mg_of X G gP
  have NI : NsC K mg CN CP := ⟨⟨⟨_, _, _, _, _, _, _, _, _, _, _, _, _, _, _, lC, rV⟩, sX, bN, tN, kN⟩, iX, gPm, rg, rd, vV⟩
  have NR : NdR l.prog w K mg base CN := ⟨NI.o, ⟨g10, _, a_10, tG, ok_ndInit FNI NI, bNI⟩, PySem.W.mg_of X G gN⟩
  have CnameE : Cl l.prog w K mg base 1 "_is_name" (spIsNameE K) := ⟨f10, _, _, ok_isNameE F10 T Cn, m10, k10, b10⟩
  have CtextW : Cl l.prog w K mg base 1 "is_text" (spIsTextW K) := ⟨f1, _, _, ok_isTextW F1 T Cs, m1, k1, b1⟩
  have CdeedO : Cl l.prog w K mg base 2 "_is_deed" (spIsDeedO K) := ⟨f12, _, _, ok_isDeedO F12 T Cname Ctext CnameE CtextW, m12, k12, b12⟩
  have CkW := ok_checkW F11 T ml NR CdeedO
  have AnW := ok_answersW (Cf := C) (CD := D) (CN := CN) F8 T ⟨f11, _, CkW, m11, k11, b11⟩
  have WiW := ok_wishedW F29 Cn Dd Df ⟨f8, _, AnW, m8, k8, b8⟩
  have kO : ∀ Z ∈ [C1, C2, C3, C4, C5, C6, C7], PySem.W.kitOne K (.ref CN) (.ref Z) = some false := by
    intro Z hZ
    simp only [List.mem_cons, List.not_mem_nil, or_false] at hZ
    rcases hZ with rfl | rfl | rfl | rfl | rfl | rfl | rfl
    · exact kit_ref_no iC1 tC1 sC1 sN
    · exact kit_ref_no iC2 tC2 sC2 sN
    · exact kit_ref_no iC3 tC3 sC3 sN
    · exact kit_ref_no iC4 tC4 sC4 sN
    · exact kit_ref_no iC5 tC5 sC5 sN
    · exact kit_ref_no iC6 tC6 sC6 sN
    · exact kit_ref_no iC7 tC7 sC7 sN
  have Dw : DdW l.prog w K mg base C D CN CP C1 C2 C3 C4 C5 C6 C7 := ⟨⟨f29, _, WiW, m29, k29, b29⟩, ⟨f8, _, AnW, m8, k8, ⟨fun s us ws _ h1 h2 => match us, ws, h1, h2 with | [], [_, _], _, _ => .of_eq rfl, fun r1 r2 => r1.append r2⟩⟩, gPm, NR.g, PySem.W.mg_of X G gC1, PySem.W.mg_of X G gC2, PySem.W.mg_of X G gC3, PySem.W.mg_of X G gC4, PySem.W.mg_of X G gC5, PySem.W.mg_of X G gC6, PySem.W.mg_of X G gC7, PySem.W.mg_none_of X G nV, PySem.W.exm_ref bP dP tP sNP, ⟨eg, ek, bN, ed, ea, en, et, em⟩, ⟨eg, ek, bN, ed⟩, iX, kit_ty_ref sNV, kO⟩
  have Cnt : Cl l.prog w K mg base 4 "_law_no_text" (spNoT K) := ⟨f30, _, _, ok_noT F30 Cdraw Ctx, m30, k30, b30⟩
  have Cnd : Cl l.prog w K mg base 5 "_law_no_deed" (spNoD K) := ⟨f31, _, _, ok_noD F31 Cdraw Ctx Cnt, m31, k31, b31⟩
  have Cre : Cl l.prog w K mg base 7 "_law_refused" (spRefD K C D) := ⟨f32, _, _, ok_refD F32 T Dw, m32, k32, b32⟩
  exact ok_law F33 T ml Cwell Cdraw Cfew Cfour Cdds Cdoors GW Cans Cwi Ctr Cnd Cre
theorem walk {l : PySem.W.OpenLaw} {q : Program} {loose : List Str} {XP : (Str → Option Value) → Heap → Prop} {YP : World → Heap → Prop} {d : DefRec} {K : Params → PySem.W.Frag} (hn : l.most = some 63) (hdf : d.params.defaults = [])
    (hY : ∀ (w : World) (h : Heap), YP w h → (K w.params).In h)
    (F : ∀ (w : World) (mg : Str → Option Value) (fa : Addr) (h : Heap), (K w.params).In h → h.Ns mainGlobals mg → mg d.name = some (.ref fa) →
      ∃ fd : FuncData, (∀ (s : Shared) (u : Value), BindsTo s fd ⟨[u], []⟩ [("script", u)]) ∧ ∀ base : Heap, (K w.params).In base → base.Ns mainGlobals mg → FnOk l.prog w (K w.params) mg base CX0 8 fa fd ["script"] (spLaw (K w.params))) :
    PySem.W.WalkO q loose XP YP l.row.toRowW d [] (fun f vs => PySem.call f vs) :=
  L2.walk_of (n := 63) (k := 8) (x := "script") (CX := fun _ => CX0) (sp := fun w => spLaw (K w.params)) hn (by decide) hdf ⟨rfl, by decide, by decide⟩ hY F (fun _ _ a ns hl _ hS => ⟨a, ns, rfl, hS, hl, fun _ => rfl⟩) fun _ _ _ _ _ z => z
end Pd
open PySem PySem.W PyProof.Rows
set_option maxRecDepth 100000 in
set_option maxHeartbeats 0 in
theorem PySem.Challenge.cw_plaindoors_k22_deeds_refused_holds : PySem.Challenge.rw_plaindoors_k22_deeds_refused.Holds := by
  w_on; o_law; k_head; (case hw => w_witness2)
  k_fill
  refine Pd.walk (l := PySem.Challenge.rw_plaindoors_k22_deeds_refused) rfl rfl (fun w h Y => PySem.W.kIn_of Y) ?F
  case F =>
    intro w mg fa h KX G hmg
    refine' Pd.all_mk KX G hmg ?a0 ?l0 ?c0 ?k0 ?a1 ?l1 ?c1 ?k1 ?a2 ?l2 ?c2 ?k2 ?a3 ?l3 ?c3 ?k3 ?a4 ?l4 ?c4 ?k4 ?a5 ?l5 ?c5 ?k5 ?a6 ?l6 ?c6 ?k6 ?a7 ?l7 ?c7 ?k7 ?a8 ?l8 ?c8 ?k8 ?a9 ?l9 ?c9 ?k9 ?a10 ?l10 ?c10 ?k10 ?a11 ?l11 ?c11 ?k11 ?a12 ?l12 ?c12 ?k12 ?a13 ?l13 ?c13 ?k13 ?a14 ?l14 ?c14 ?k14 ?a15 ?l15 ?c15 ?k15 ?a16 ?l16 ?c16 ?k16 ?a17 ?l17 ?c17 ?k17 ?a18 ?l18 ?c18 ?k18 ?a19 ?l19 ?c19 ?k19 ?a20 ?l20 ?c20 ?k20 ?a21 ?l21 ?c21 ?k21 ?a22 ?l22 ?c22 ?k22 ?a23 ?l23 ?c23 ?k23 ?a24 ?l24 ?c24 ?k24 ?a25 ?l25 ?c25 ?k25 ?a26 ?l26 ?c26 ?k26 ?a27 ?l27 ?c27 ?k27 ?a28 ?l28 ?c28 ?k28 ?a29 ?l29 ?c29 ?k29 ?a30 ?l30 ?c30 ?k30 ?a31 ?l31 ?c31 ?k31 ?a32 ?l32 ?c32 ?k32 ?a33 ?l33 ?c33 ?k33 ?aC ?aD ?gN ?gP ?a_0 ?i_0 ?l_0 ?c_0 ?k_0 ?lT ?a_1 ?i_1 ?l_1 ?c_1 ?k_1 ?fi_1 ?a_2 ?i_2 ?l_2 ?c_2 ?k_2 ?a_3 ?i_3 ?l_3 ?c_3 ?k_3 ?a_4 ?i_4 ?l_4 ?c_4 ?k_4 ?a_5 ?i_5 ?l_5 ?c_5 ?k_5 ?a_6 ?i_6 ?l_6 ?c_6 ?k_6 ?a_7 ?i_7 ?l_7 ?c_7 ?k_7 ?a_8 ?i_8 ?l_8 ?c_8 ?k_8 ?a_9 ?i_9 ?l_9 ?c_9 ?k_9 ?a_10 ?i_10 ?l_10 ?c_10 ?k_10 ?pg ?hd ?po ?sa ?mkC ?kc ?pgD ?hdD ?poD ?saD ?mkD ?kcD ?nD0 ?nD1 ?nD2 ?nD3 ?xN ?lN ?nl ?gC1 ?gC2 ?gC3 ?gC4 ?gC5 ?gC6 ?gC7 ?nV ?lC ?rV ?sX ?iX ?tG ?rg ?rd ?vV ?kN ?bN ?tN ?bP ?dP ?tP ?sNP ?eg ?ek ?ed ?ea ?en ?et ?em ?sNV ?sN ?iC1 ?iC2 ?iC3 ?iC4 ?iC5 ?iC6 ?iC7 ?tC1 ?tC2 ?tC3 ?tC4 ?tC5 ?tC6 ?tC7 ?sC1 ?sC2 ?sC3 ?sC4 ?sC5 ?sC6 ?sC7 ?n0 ?v0 ?v1 ?v2 ?v3 ?v4 ?z0 ?z1 ?z2 ?z3 ?z4 ?z5 ?z6 ?z7 ?z8 ?z9 ?z10 ?z11 ?z12 ?zs
    (case a0 => k_is); (case l0 => k_is); (case c0 => k_is); (case k0 => k_is); (case a1 => k_is); (case l1 => k_is)
    (case c1 => k_is); (case k1 => k_is); (case a2 => k_is); (case l2 => k_is); (case c2 => k_is); (case k2 => k_is)
    (case a3 => k_is); (case l3 => k_is); (case c3 => k_is); (case k3 => k_is); (case a4 => k_is); (case l4 => k_is)
    (case c4 => k_is); (case k4 => k_is); (case a5 => k_is); (case l5 => k_is); (case c5 => k_is); (case k5 => k_is)
    (case a6 => k_is); (case l6 => k_is); (case c6 => k_is); (case k6 => k_is); (case a7 => k_is); (case l7 => k_is)
    (case c7 => k_is); (case k7 => k_is); (case a8 => k_is); (case l8 => k_is); (case c8 => k_is); (case k8 => k_is)
    (case a9 => k_is); (case l9 => k_is); (case c9 => k_is); (case k9 => k_is); (case a10 => k_is); (case l10 => k_is)
    (case c10 => k_is); (case k10 => k_is); (case a11 => k_is); (case l11 => k_is); (case c11 => k_is); (case k11 => k_is)
    (case a12 => k_is); (case l12 => k_is); (case c12 => k_is); (case k12 => k_is); (case a13 => k_is); (case l13 => k_is)
    (case c13 => k_is); (case k13 => k_is); (case a14 => k_is); (case l14 => k_is); (case c14 => k_is); (case k14 => k_is)
    (case a15 => k_is); (case l15 => k_is); (case c15 => k_is); (case k15 => k_is); (case a16 => k_is); (case l16 => k_is)
    (case c16 => k_is); (case k16 => k_is); (case a17 => k_is); (case l17 => k_is); (case c17 => k_is); (case k17 => k_is)
    (case a18 => k_is); (case l18 => k_is); (case c18 => k_is); (case k18 => k_is); (case a19 => k_is); (case l19 => k_is)
    (case c19 => k_is); (case k19 => k_is); (case a20 => k_is); (case l20 => k_is); (case c20 => k_is); (case k20 => k_is)
    (case a21 => k_is); (case l21 => k_is); (case c21 => k_is); (case k21 => k_is); (case a22 => k_is); (case l22 => k_is)
    (case c22 => k_is); (case k22 => k_is); (case a23 => k_is); (case l23 => k_is); (case c23 => k_is); (case k23 => k_is)
    (case a24 => k_is); (case l24 => k_is); (case c24 => k_is); (case k24 => k_is); (case a25 => k_is); (case l25 => k_is)
    (case c25 => k_is); (case k25 => k_is); (case a26 => k_is); (case l26 => k_is); (case c26 => k_is); (case k26 => k_is)
    (case a27 => k_is); (case l27 => k_is); (case c27 => k_is); (case k27 => k_is); (case a28 => k_is); (case l28 => k_is)
    (case c28 => k_is); (case k28 => k_is); (case a29 => k_is); (case l29 => k_is); (case c29 => k_is); (case k29 => k_is)
    (case a30 => k_is); (case l30 => k_is); (case c30 => k_is); (case k30 => k_is); (case a31 => k_is); (case l31 => k_is)
    (case c31 => k_is); (case k31 => k_is); (case a32 => k_is); (case l32 => k_is); (case c32 => k_is); (case k32 => k_is)
    (case a33 => k_is); (case l33 => k_is); (case c33 => k_is); (case k33 => k_is); (case aC => k_is); (case aD => k_is)
    (case gN => k_is); (case gP => k_is); (case a_0 => k_is); (case i_0 => k_is); (case l_0 => k_is); (case c_0 => k_is)
    (case k_0 => k_is); (case lT => k_is); (case a_1 => k_is); (case i_1 => k_is); (case l_1 => k_is); (case c_1 => k_is)
    (case k_1 => k_is); (case fi_1 => k_is); (case a_2 => k_is); (case i_2 => k_is); (case l_2 => k_is); (case c_2 => k_is)
    (case k_2 => k_is); (case a_3 => k_is); (case i_3 => k_is); (case l_3 => k_is); (case c_3 => k_is); (case k_3 => k_is)
    (case a_4 => k_is); (case i_4 => k_is); (case l_4 => k_is); (case c_4 => k_is); (case k_4 => k_is); (case a_5 => k_is)
    (case i_5 => k_is); (case l_5 => k_is); (case c_5 => k_is); (case k_5 => k_is); (case a_6 => k_is); (case i_6 => k_is)
    (case l_6 => k_is); (case c_6 => k_is); (case k_6 => k_is); (case a_7 => k_is); (case i_7 => k_is); (case l_7 => k_is)
    (case c_7 => k_is); (case k_7 => k_is); (case a_8 => k_is); (case i_8 => k_is); (case l_8 => k_is); (case c_8 => k_is)
    (case k_8 => k_is); (case a_9 => k_is); (case i_9 => k_is); (case l_9 => k_is); (case c_9 => k_is); (case k_9 => k_is)
    (case a_10 => k_is); (case i_10 => k_is); (case l_10 => k_is); (case c_10 => k_is); (case k_10 => k_is); (case pg => k_is)
    (case hd => k_is); (case po => k_is); (case sa => k_is); (case mkC => k_is); (case kc => k_is); (case pgD => k_is)
    (case hdD => k_is); (case poD => k_is); (case saD => k_is); (case mkD => k_is); (case kcD => k_is); (case nD0 => k_is)
    (case nD1 => k_is); (case nD2 => k_is); (case nD3 => k_is); (case xN => k_is); (case lN => k_is); (case nl => k_is)
    (case gC1 => k_is); (case gC2 => k_is); (case gC3 => k_is); (case gC4 => k_is); (case gC5 => k_is); (case gC6 => k_is)
    (case gC7 => k_is); (case nV => k_is); (case lC => k_is); (case rV => first | rfl | decide +kernel); (case sX => k_is); (case iX => k_is)
    (case tG => k_is); (case rg => k_is); (case rd => k_is); (case vV => k_is); (case kN => k_is); (case bN => k_is)
    (case tN => k_is); (case bP => k_is); (case dP => k_is); (case tP => k_is); (case sNP => k_is); (case eg => k_is)
    (case ek => k_is); (case ed => k_is); (case ea => k_is); (case en => k_is); (case et => k_is); (case em => k_is)
    (case sNV => k_is); (case sN => first | rfl | k_is); (case iC1 => k_is); (case iC2 => k_is); (case iC3 => k_is); (case iC4 => k_is)
    (case iC5 => k_is); (case iC6 => k_is); (case iC7 => k_is); (case tC1 => k_is); (case tC2 => k_is); (case tC3 => k_is)
    (case tC4 => k_is); (case tC5 => k_is); (case tC6 => k_is); (case tC7 => k_is); (case sC1 => k_is); (case sC2 => k_is)
    (case sC3 => k_is); (case sC4 => k_is); (case sC5 => k_is); (case sC6 => k_is); (case sC7 => k_is); (case n0 => k_is)
    (case v0 => k_is); (case v1 => k_is); (case v2 => k_is); (case v3 => k_is); (case v4 => k_is); (case z0 => k_is)
    (case z1 => k_is); (case z2 => k_is); (case z3 => k_is); (case z4 => k_is); (case z5 => k_is); (case z6 => k_is)
    (case z7 => k_is); (case z8 => k_is); (case z9 => k_is); (case z10 => k_is); (case z11 => k_is); (case z12 => k_is)
    (case zs => k_is)
