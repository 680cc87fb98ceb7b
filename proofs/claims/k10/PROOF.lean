import PyProof.Rows.All
import Wide.All
import OpenK.AllK
import Wide.FinOn
import HandS.ForMost
import HandS.Wide
import HandS.Gcd
import HandS.Style
import HandS.IsInst
import HandS.Codes
import HandS.NoneIn
import HandS.Deep
import Flt.RightSqrt
import KE.DatumOrd
import PyProof.Rows.RowBridgeK
import KE.SortData
import PySem.Challenge.RW_wholeconic_k10_self_changes_and_classes
set_option Elab.async false
set_option linter.all false
set_option maxRecDepth 100000
set_option maxHeartbeats 4000000
namespace Wc
open PySem PySem.Spec PyProof.Rows L2
/-! ### the text -/
def topS (i : Nat) : Stmt := PySem.Challenge.pw_wholeconic_k10_self_changes_and_classes.main.body.getD i (.Pass ⟨0, 0, 0, 0⟩)
abbrev sMeasure : Stmt := topS 2
theorem scMeasure : FnScope ["numbers", "found", "number"] ["numbers"] (defScope sMeasure) := ⟨rfl, rfl, rfl, by decide +kernel, rfl, by decide +kernel, by decide +kernel⟩
abbrev sFloorRoot : Stmt := topS 3
theorem scFloorRoot : FnScope ["n"] ["n"] (defScope sFloorRoot) := ⟨rfl, rfl, rfl, by decide +kernel, rfl, by decide +kernel, by decide +kernel⟩
abbrev sDiscriminant : Stmt := topS 5
theorem scDiscriminant : FnScope ["form", "a", "b", "c"] ["form"] (defScope sDiscriminant) := ⟨rfl, rfl, rfl, by decide +kernel, rfl, by decide +kernel, by decide +kernel⟩
abbrev sContent : Stmt := topS 6
theorem scContent : FnScope ["form"] ["form"] (defScope sContent) := ⟨rfl, rfl, rfl, by decide +kernel, rfl, by decide +kernel, by decide +kernel⟩
abbrev sDivided : Stmt := topS 7
theorem scDivided : FnScope ["form", "number", "a", "b", "c"] ["form", "number"] (defScope sDivided) := ⟨rfl, rfl, rfl, by decide +kernel, rfl, by decide +kernel, by decide +kernel⟩
abbrev sUnitChange : Stmt := topS 8
theorem scUnitChange : FnScope ["form", "t", "u", "a", "b", "c"] ["form", "t", "u"] (defScope sUnitChange) := ⟨rfl, rfl, rfl, by decide +kernel, rfl, by decide +kernel, by decide +kernel⟩
abbrev sIsReduced : Stmt := topS 13
theorem scIsReduced : FnScope ["form", "a", "b", "c"] ["form"] (defScope sIsReduced) := ⟨rfl, rfl, rfl, by decide +kernel, rfl, by decide +kernel, by decide +kernel⟩
abbrev sSelfChanges : Stmt := topS 14
theorem scSelfChanges : FnScope ["form", "part", "d", "units", "t", "u"] ["form"] (defScope sSelfChanges) := ⟨rfl, rfl, rfl, by decide +kernel, rfl, by decide +kernel, by decide +kernel⟩
abbrev sPositiveClasses : Stmt := topS 15
theorem scPositiveClasses : FnScope ["d", "found", "a", "b", "form"] ["d"] (defScope sPositiveClasses) := ⟨rfl, rfl, rfl, by decide +kernel, rfl, by decide +kernel, by decide +kernel⟩
abbrev sLawCell : Stmt := topS 17
theorem scLawCell : FnScope ["script", "k"] ["script", "k"] (defScope sLawCell) := ⟨rfl, rfl, rfl, by decide +kernel, rfl, by decide +kernel, by decide +kernel⟩
abbrev sLawNumbers : Stmt := topS 18
theorem scLawNumbers : FnScope ["cell", "many", "rest", "span", "numbers", "k", "mixed"] ["cell", "many"] (defScope sLawNumbers) := ⟨rfl, rfl, rfl, by decide +kernel, rfl, by decide +kernel, by decide +kernel⟩
abbrev sLawState : Stmt := topS 19
theorem scLawState : FnScope ["script", "numbers", "k"] ["script"] (defScope sLawState) := ⟨rfl, rfl, rfl, by decide +kernel, rfl, by decide +kernel, by decide +kernel⟩
abbrev sLawNext : Stmt := topS 20
theorem scLawNext : FnScope ["state", "many", "number"] ["state", "many"] (defScope sLawNext) := ⟨rfl, rfl, rfl, by decide +kernel, rfl, by decide +kernel, by decide +kernel⟩
abbrev sLawMeasure : Stmt := topS 22
theorem scLawMeasure : FnScope ["a", "b", "k"] ["a", "b"] (defScope sLawMeasure) := ⟨rfl, rfl, rfl, by decide +kernel, rfl, by decide +kernel, by decide +kernel⟩
abbrev sLawWorth : Stmt := topS 25
theorem scLawWorth : FnScope ["form", "x", "y"] ["form", "x", "y"] (defScope sLawWorth) := ⟨rfl, rfl, rfl, by decide +kernel, rfl, by decide +kernel, by decide +kernel⟩
abbrev sLawAct : Stmt := topS 26
theorem scLawAct : FnScope ["form", "m", "first", "last"] ["form", "m"] (defScope sLawAct) := ⟨rfl, rfl, rfl, by decide +kernel, rfl, by decide +kernel, by decide +kernel⟩
abbrev sLawFixing : Stmt := topS 28
theorem scLawFixing : FnScope ["form", "found", "k", "m"] ["form"] (defScope sLawFixing) := ⟨rfl, rfl, rfl, by decide +kernel, rfl, by decide +kernel, by decide +kernel⟩
abbrev sLaw : Stmt := topS 29
theorem scLaw : FnScope ["script", "state", "a", "g", "form", "d", "due", "b", "c"] ["script"] (defScope sLaw) := ⟨rfl, rfl, rfl, by decide +kernel, rfl, by decide +kernel, by decide +kernel⟩
structure Txt (K : PySem.W.Frag) (mg : Str → Option Value) (fa : Nat → Addr) (fd : Nat → FuncData) : Prop where
  F_measure : Fun K "measure" "measure" sMeasure (fa 0) (fd 0)
  B_measure : Binds K (fd 0) ["numbers"] []
  G_measure : mg "measure" = some (.ref (fa 0))
  F_floor_root : Fun K "floor_root" "floor_root" sFloorRoot (fa 1) (fd 1)
  B_floor_root : Binds K (fd 1) ["n"] []
  G_floor_root : mg "floor_root" = some (.ref (fa 1))
  F_discriminant : Fun K "discriminant" "discriminant" sDiscriminant (fa 2) (fd 2)
  B_discriminant : Binds K (fd 2) ["form"] []
  G_discriminant : mg "discriminant" = some (.ref (fa 2))
  F_content : Fun K "content" "content" sContent (fa 3) (fd 3)
  B_content : Binds K (fd 3) ["form"] []
  G_content : mg "content" = some (.ref (fa 3))
  F_divided : Fun K "divided" "divided" sDivided (fa 4) (fd 4)
  B_divided : Binds K (fd 4) ["form", "number"] []
  G_divided : mg "divided" = some (.ref (fa 4))
  F_unit_change : Fun K "unit_change" "unit_change" sUnitChange (fa 5) (fd 5)
  B_unit_change : Binds K (fd 5) ["form", "t", "u"] []
  G_unit_change : mg "unit_change" = some (.ref (fa 5))
  F_is_reduced : Fun K "is_reduced" "is_reduced" sIsReduced (fa 6) (fd 6)
  B_is_reduced : Binds K (fd 6) ["form"] []
  G_is_reduced : mg "is_reduced" = some (.ref (fa 6))
  F_self_changes : Fun K "self_changes" "self_changes" sSelfChanges (fa 7) (fd 7)
  B_self_changes : Binds K (fd 7) ["form"] []
  G_self_changes : mg "self_changes" = some (.ref (fa 7))
  F_positive_classes : Fun K "positive_classes" "positive_classes" sPositiveClasses (fa 8) (fd 8)
  B_positive_classes : Binds K (fd 8) ["d"] []
  G_positive_classes : mg "positive_classes" = some (.ref (fa 8))
  F__law_cell : Fun K "_law_cell" "_law_cell" sLawCell (fa 9) (fd 9)
  B__law_cell : Binds K (fd 9) ["script", "k"] []
  G__law_cell : mg "_law_cell" = some (.ref (fa 9))
  F__law_numbers : Fun K "_law_numbers" "_law_numbers" sLawNumbers (fa 10) (fd 10)
  B__law_numbers : Binds K (fd 10) ["cell", "many"] []
  G__law_numbers : mg "_law_numbers" = some (.ref (fa 10))
  F__law_state : Fun K "_law_state" "_law_state" sLawState (fa 11) (fd 11)
  B__law_state : Binds K (fd 11) ["script"] []
  G__law_state : mg "_law_state" = some (.ref (fa 11))
  F__law_next : Fun K "_law_next" "_law_next" sLawNext (fa 12) (fd 12)
  B__law_next : Binds K (fd 12) ["state", "many"] []
  G__law_next : mg "_law_next" = some (.ref (fa 12))
  F__law_measure : Fun K "_law_measure" "_law_measure" sLawMeasure (fa 13) (fd 13)
  B__law_measure : Binds K (fd 13) ["a", "b"] []
  G__law_measure : mg "_law_measure" = some (.ref (fa 13))
  F__law_worth : Fun K "_law_worth" "_law_worth" sLawWorth (fa 14) (fd 14)
  B__law_worth : Binds K (fd 14) ["form", "x", "y"] []
  G__law_worth : mg "_law_worth" = some (.ref (fa 14))
  F__law_act : Fun K "_law_act" "_law_act" sLawAct (fa 15) (fd 15)
  B__law_act : Binds K (fd 15) ["form", "m"] []
  G__law_act : mg "_law_act" = some (.ref (fa 15))
  F__law_fixing : Fun K "_law_fixing" "_law_fixing" sLawFixing (fa 16) (fd 16)
  B__law_fixing : Binds K (fd 16) ["form"] []
  G__law_fixing : mg "_law_fixing" = some (.ref (fa 16))
  F_law : Fun K "law" "law" sLaw (fa 17) (fd 17)
  B_law : Binds K (fd 17) ["script"] []
  G_law : mg "law" = some (.ref (fa 17))
  g_UNITS_OF_3 : mg "UNITS_OF_3" = some (.ref (fa 18))
  S_UNITS_OF_3 : ∃ t0 t1 t2 t3 t4 t5 : Addr, (∀ H, SqT K H (fa 18) [.ref t0, .ref t1, .ref t2, .ref t3, .ref t4, .ref t5]) ∧ (∀ H, SqT K H t0 [.int 2, .int 0]) ∧ (∀ H, SqT K H t1 [.int 1, .int 1]) ∧ (∀ H, SqT K H t2 [.int (-1), .int 1]) ∧ (∀ H, SqT K H t3 [.int (-2), .int 0]) ∧ (∀ H, SqT K H t4 [.int (-1), .int (-1)]) ∧ (∀ H, SqT K H t5 [.int 1, .int (-1)])
  g_UNITS_OF_4 : mg "UNITS_OF_4" = some (.ref (fa 19))
  S_UNITS_OF_4 : ∃ t0 t1 t2 t3 : Addr, (∀ H, SqT K H (fa 19) [.ref t0, .ref t1, .ref t2, .ref t3]) ∧ (∀ H, SqT K H t0 [.int 2, .int 0]) ∧ (∀ H, SqT K H t1 [.int 0, .int 1]) ∧ (∀ H, SqT K H t2 [.int (-2), .int 0]) ∧ (∀ H, SqT K H t3 [.int 0, .int (-1)])
  g_OTHER_UNITS : mg "OTHER_UNITS" = some (.ref (fa 20))
  S_OTHER_UNITS : ∃ t0 t1 : Addr, (∀ H, SqT K H (fa 20) [.ref t0, .ref t1]) ∧ (∀ H, SqT K H t0 [.int 2, .int 0]) ∧ (∀ H, SqT K H t1 [.int (-2), .int 0])
  m_abs : mg "abs" = none
  m_int : mg "int" = none
  m_len : mg "len" = none
  m_range : mg "range" = none
  m_sorted : mg "sorted" = none
  g_gcd : mg "gcd" = some (.builtin "math.gcd")
  g_isqrt : mg "isqrt" = some (.builtin "math.isqrt")

/-! ### heaps, draws -/
theorem same_upd {H : Hp} {p : Addr} {o : HO} (h : H p = none) : Same H (upd H p o) := fun b x e => by
  rw [upd_ne (ne_of_none e h)]
  exact e
theorem same_mut {H0 H : Hp} {p : Addr} {o : HO} (s : Same H0 H) (h : H0 p = none) : Same H0 (upd H p o) := fun b x e => by
  rw [upd_ne (ne_of_none e h)]
  exact s _ _ e
theorem same_off {H H' : Hp} {p : Addr} {o : HO} {q : Addr} (f : ∀ b, b ≠ p → H' b = H b) (n : q ≠ p) (h : H q = some o) : H' q = some o := by
  rw [f q n]
  exact h
/-- the state of the draws: the list at p, its numbers at a, at most N draws so far -/
def Dw (H : Hp) (p a : Addr) (N : Nat) : Prop := ∃ (m : Nat) (ns : List Int), m ≤ N ∧ a ≠ p ∧ H p = some (.lst [.ref a, .int (m : Int)]) ∧ H a = some (.lst (ns.map V.int)) ∧ ns.length = 120 ∧ ∀ n ∈ ns, 0 ≤ n ∧ n < 1000
theorem Dw.same {H H' : Hp} {p a : Addr} {N : Nat} (s : Same H H') (d : Dw H p a N) : Dw H' p a N := by
  obtain ⟨m, ns, h1, h2, h3, h4, h5⟩ := d
  exact ⟨m, ns, h1, h2, s _ _ h3, s _ _ h4, h5⟩
theorem Dw.mono {H : Hp} {p a : Addr} {N M : Nat} (d : Dw H p a N) (h : N ≤ M) : Dw H p a M := by
  obtain ⟨m, ns, h1, h2⟩ := d
  exact ⟨m, ns, Nat.le_trans h1 h, h2⟩
theorem Dw.new {H : Hp} {p a q : Addr} {o : HO} {N : Nat} (d : Dw H p a N) (h : H q = none) : Dw (upd H q o) p a N := d.same (same_upd h)
theorem Dw.ne {H : Hp} {p a q : Addr} {N : Nat} (d : Dw H p a N) (h : H q = none) : q ≠ p ∧ q ≠ a := by
  obtain ⟨m, ns, h1, h2, h3, h4, h5⟩ := d
  exact ⟨(ne_of_none h3 h).symm, (ne_of_none h4 h).symm⟩
theorem Dw.mut {H : Hp} {p a q : Addr} {o : HO} {N : Nat} (d : Dw H p a N) (hp : q ≠ p) (ha : q ≠ a) : Dw (upd H q o) p a N := by
  obtain ⟨m, ns, h1, h2, h3, h4, h5⟩ := d
  exact ⟨m, ns, h1, h2, by rw [upd_ne hp.symm]; exact h3, by rw [upd_ne ha.symm]; exact h4, h5⟩
theorem at_mem {α : Type} {xs : List α} {r : Int} (h0 : 0 ≤ r) (h1 : r < xs.length) : ∃ v, v ∈ xs ∧ atI xs r = some v := by
  obtain ⟨j, rfl⟩ := Int.eq_ofNat_of_zero_le h0
  have hj : j < xs.length := by omega
  exact ⟨xs[j], List.getElem_mem hj, atI_nat (List.getElem?_eq_getElem hj)⟩
theorem at_int {ns : List Int} {r : Int} (h0 : 0 ≤ r) (h1 : r < ns.length) : ∃ n ∈ ns, atI (ns.map V.int) r = some (.int n) := by
  obtain ⟨v, hv, e⟩ := at_mem (xs := ns.map V.int) h0 (by rw [List.length_map]; exact h1)
  obtain ⟨n, hn, rfl⟩ := List.mem_map.mp hv
  exact ⟨n, hn, e⟩
theorem pow_ok {i j : Int} (h : 0 ≤ j ∧ j ≤ 1000000 ∧ i.natAbs < 2 ^ 64) : CPow i j := h
theorem wayF {c A B : Prop} [Decidable c] (h : ¬ c) (b : B) : if decide c = true then A else B := by
  rw [if_neg (fun z => h (of_decide_eq_true z))]
  exact b
theorem wayT {c A B : Prop} [Decidable c] (h : c) (a : A) : if decide c = true then A else B := by
  rw [if_pos (decide_eq_true h)]
  exact a
theorem wayNF {c A B : Prop} [Decidable c] (h : c) (b : B) : if (!decide c) = true then A else B := by
  rw [decide_eq_true h]
  exact iteF b
theorem wayNT {c A B : Prop} [Decidable c] (h : ¬ c) (a : A) : if (!decide c) = true then A else B := by
  rw [decide_eq_false h]
  exact iteT a
theorem way2 {c A B : Prop} [Decidable c] (h1 : c → A) (h2 : ¬ c → B) : if decide c = true then A else B := by
  by_cases h : c
  · exact wayT h (h1 h)
  · exact wayF h (h2 h)
theorem wayN2 {c A B : Prop} [Decidable c] (h1 : ¬ c → A) (h2 : c → B) : if (!decide c) = true then A else B := by
  by_cases h : c
  · exact wayNF h (h2 h)
  · exact wayNT h (h1 h)
theorem abs_int (i : Int) : (if i < 0 then -i else i) = (i.natAbs : Int) := by
  split <;> omega
theorem small200 {n : Nat} (h : n ≤ 1000) : n ≤ sizeLine := Nat.le_of_lt (small1000 h)
/-! ### data: == of lists and tuples -/
theorem dp_ints {K : PySem.W.Frag} {H : Hp} : ∀ ns : List Int, DpAll K H (ns.map V.int) (ns.map PyData.int)
  | [] => .nil
  | n :: ns => .cons (.int n) (dp_ints ns)
theorem lay_ints : ∀ ns : List Int, PyData.canLayAll0 (ns.map PyData.int) = true
  | [] => rfl
  | n :: ns => by
    rw [List.map_cons, PyData.canLayAll0, lay_ints ns]
    rfl
theorem depth_ints : ∀ ns : List Int, PyData.depthAll (ns.map PyData.int) = 0
  | [] => rfl
  | n :: ns => by
    rw [List.map_cons, PyData.depthAll, depth_ints ns]
    rfl
theorem shaped_ints (ns : List Int) : SeqAt.shaped (.list (ns.map PyData.int)) = true := by
  show (PyData.canLay0 (.list (ns.map PyData.int)) && decide (PyData.depth (.list (ns.map PyData.int)) ≤ 64)) = true
  rw [Bool.and_eq_true]
  refine ⟨by rw [PyData.canLay0]; exact lay_ints ns, decide_eq_true ?_⟩
  rw [PyData.depth, depth_ints]
  decide
theorem shaped_intsT (ns : List Int) : SeqAt.shaped (.tuple (ns.map PyData.int)) = true := by
  show (PyData.canLay0 (.tuple (ns.map PyData.int)) && decide (PyData.depth (.tuple (ns.map PyData.int)) ≤ 64)) = true
  rw [Bool.and_eq_true]
  refine ⟨by rw [PyData.canLay0]; exact lay_ints ns, decide_eq_true ?_⟩
  rw [PyData.depth, depth_ints]
  decide
theorem eqD_same {K : PySem.W.Frag} {H : Hp} {x y : V} {Q : VK} {d : PyData} (hx : Dp K H x d) (hy : Dp K H y d) (sh : SeqAt.shaped d = true) (q : Q (.bl true) H) : rEqD K x y H Q :=
  ⟨d, d, hx, hy, sh, sh, by rw [SeqAt.eqv_refl d (SeqAt.canLay_of_shaped sh)]; exact q⟩
theorem neD_same {K : PySem.W.Frag} {H : Hp} {x y : V} {Q : VK} {d : PyData} (hx : Dp K H x d) (hy : Dp K H y d) (sh : SeqAt.shaped d = true) (q : Q (.bl false) H) : rNeD K x y H Q :=
  ⟨d, d, hx, hy, sh, sh, by rw [SeqAt.eqv_refl d (SeqAt.canLay_of_shaped sh)]; exact q⟩
/-! ### slices -/
theorem cut_to (ns : List Int) (k : Nat) : cutV (ns.map V.int) none (some (k : Int)) = (ns.take k).map V.int := by
  unfold cutV
  rw [HT.sIx_none, HT.sIx_nat, List.drop_zero, List.map_take, Nat.sub_zero, List.length_map]
  by_cases h : k ≤ ns.length
  · rw [Nat.min_eq_left h]
  · rw [Nat.min_eq_right (by omega), List.take_of_length_le (by rw [List.length_map]; omega), List.take_of_length_le (by rw [List.length_map]; omega)]
theorem cut_from (xs : List V) (k : Nat) : cutV xs (some (k : Int)) none = xs.drop k := by
  unfold cutV
  rw [HT.sIx_none, HT.sIx_nat]
  by_cases h : k ≤ xs.length
  · rw [Nat.min_eq_left h, List.take_of_length_le (by rw [List.length_drop]; omega)]
  · rw [Nat.min_eq_right (by omega), List.drop_of_length_le (by omega), List.drop_of_length_le (by omega)]
    exact List.take_nil
theorem isiF {K : PySem.W.Frag} {H : Hp} {i : Int} {Q : VK} (q : Q (.bl false) H) : rIsi K [.int i, .ty "bool"] H Q := ⟨_, _, _, _, false, rfl, ClsV.ty _, TyX.base (.int i), kit_ty (by decide +kernel), q⟩
theorem isiT {K : PySem.W.Frag} {H : Hp} {b : Bool} {Q : VK} (q : Q (.bl true) H) : rIsi K [.bl b, .ty "bool"] H Q := ⟨_, _, _, _, true, rfl, ClsV.ty _, TyX.base (.bl b), kit_ty (by decide +kernel), q⟩
theorem isiTup {K : PySem.W.Frag} {H : Hp} {a : Addr} {xs : List V} {Q : VK} (h : H a = some (.tup xs)) (q : Q (.bl true) H) : rIsi K [.ref a, .ty "tuple"] H Q := ⟨_, _, _, _, true, rfl, ClsV.ty _, TyX.base (.tup h), kit_ty (by decide +kernel), q⟩
theorem isiLst {K : PySem.W.Frag} {H : Hp} {a : Addr} {xs : List V} {Q : VK} (h : H a = some (.lst xs)) (q : Q (.bl true) H) : rIsi K [.ref a, .ty "list"] H Q := ⟨_, _, _, _, true, rfl, ClsV.ty _, TyX.base (.lst h), kit_ty (by decide +kernel), q⟩
/-! ### rules with the written part named -/
section
variable {X : Cx}
def rLenQ (K : PySem.W.Frag) : List V → Hp → VK → Prop := fun xs H Q => ∃ p ys, xs = [.ref p] ∧ (SqL K H p ys ∨ SqT K H p ys) ∧ Q (.int ys.length) H
def rListQ (K : PySem.W.Frag) : List V → Hp → VK → Prop := fun xs H Q => ∃ p ys, xs = [.ref p] ∧ (SqL K H p ys ∨ SqT K H p ys) ∧ ∀ l, H l = none → Q (.ref l) (upd H l (.lst ys))
def rTupQ (K : PySem.W.Frag) : List V → Hp → VK → Prop := fun xs H Q => ∃ p ys, xs = [.ref p] ∧ ((SqL K H p ys ∧ ∀ l, H l = none → Q (.ref l) (upd H l (.tup ys))) ∨ (SqT K H p ys ∧ Q (.ref p) H))
theorem ixL (K : PySem.W.Frag) (h : X.K = K := by rfl) : IxR X (rIxL K) := by subst h; exact ix_list
theorem ixT (K : PySem.W.Frag) (h : X.K = K := by rfl) : IxR X (rIxT K) := by subst h; exact ix_tup
theorem slL (K : PySem.W.Frag) (h : X.K = K := by rfl) : SlR X (rSlL K) := by subst h; exact sl_list
theorem slT (K : PySem.W.Frag) (h : X.K = K := by rfl) : SlR X (rSlT K) := by subst h; exact sl_tup
theorem lenQ (K : PySem.W.Frag) (h : X.K = K := by rfl) : CallR X (.builtin "len") (rLenQ K) := by subst h; exact call_len_seq
theorem listQ (K : PySem.W.Frag) (h : X.K = K := by rfl) : CallR X (.type "list") (rListQ K) := by subst h; exact call_list_of
theorem tupQ (K : PySem.W.Frag) (h : X.K = K := by rfl) : CallR X (.type "tuple") (rTupQ K) := by subst h; exact call_tuple_of
theorem isiQ (K : PySem.W.Frag) (h : X.K = K := by rfl) : CallR X (.builtin "isinstance") (rIsi K) := by subst h; exact call_isi
theorem eqDQ (K : PySem.W.Frag) (hu : X.A.units + 64 < cLine) (h : X.K = K := by rfl) : OpR X (compareOp .Eq) (rEqD K) := by subst h; exact op_eqD hu
theorem neDQ (K : PySem.W.Frag) (hu : X.A.units + 64 < cLine) (h : X.K = K := by rfl) : OpR X (compareOp .NotEq) (rNeD K) := by subst h; exact op_neD hu
theorem piL (K : PySem.W.Frag) {tg l : Expr} {tl : TE} (hl : PE X l tl) (h : X.K = K := by rfl) : PI X tg l (iList K tl) := by subst h; exact pi_list hl
theorem piT (K : PySem.W.Frag) {tg l : Expr} {tl : TE} (hl : PE X l tl) (h : X.K = K := by rfl) : PI X tg l (iTup K tl) := by subst h; exact pi_tup hl
theorem inQ (K : PySem.W.Frag) (h : X.K = K := by rfl) : OpR X (compareOp .In) (rIn K false) := by subst h; exact op_in_seq
theorem notInQ (K : PySem.W.Frag) (h : X.K = K := by rfl) : OpR X (compareOp .NotIn) (rIn K true) := by subst h; exact op_notIn_seq
end
/-! ### great numbers -/
section
variable {X : Cx}
/-- // by any divisor below 2 ^ 9000 -/
def CDivX (_ j : Int) : Prop := j ≠ 0 ∧ j.natAbs < 2 ^ 9000
theorem op_fdivX : OpR X (binaryOp .FloorDiv) (rI CDivX fun i j => .int (i.fdiv j)) := opI fun i j _ _ _ _ _ hc q =>
  floordiv_int hc.1 q (.inl (PyProof.noPylong_of_log2 (PySem.Flt.log2_lt_of (by decide) hc.2)))
end
theorem pow_up {n a b : Nat} (h : n < 2 ^ a) (hab : a ≤ b) : n < 2 ^ b := Nat.lt_of_lt_of_le h (Nat.pow_le_pow_right (by decide) hab)

/-! ### bounds by powers of two -/
def Bd (n : Nat) (x : Int) : Prop := x.natAbs < 2 ^ n
theorem Bd.mono {n m : Nat} {x : Int} (h : Bd n x) (l : n ≤ m) : Bd m x := Nat.lt_of_lt_of_le h (Nat.pow_le_pow_right (by decide) l)
theorem Bd.mul {n m : Nat} {x y : Int} (h1 : Bd n x) (h2 : Bd m y) : Bd (n + m) (x * y) := wide_lt h1 h2
theorem Bd.add {n m : Nat} {x y : Int} (h1 : Bd n x) (h2 : Bd m y) : Bd (max n m + 1) (x + y) := by
  have a1 := h1.mono (Nat.le_max_left n m)
  have a2 := h2.mono (Nat.le_max_right n m)
  unfold Bd at *
  rw [Nat.pow_succ]
  omega
theorem Bd.neg {n : Nat} {x : Int} (h : Bd n x) : Bd n (-x) := by
  unfold Bd at *
  rw [Int.natAbs_neg]
  exact h
theorem Bd.sub {n m : Nat} {x y : Int} (h1 : Bd n x) (h2 : Bd m y) : Bd (max n m + 1) (x - y) := by
  have h := h1.add h2.neg
  rw [← Int.sub_eq_add_neg] at h
  exact h
theorem Bd.l8 {x : Int} (h : (x.natAbs < 2 ^ 8) = True) : Bd 8 x := of_eq_true h
theorem Bd.lit {x : Int} (h : (x.natAbs < 2 ^ 64) = True) : Bd 64 x := of_eq_true h
theorem Bd.om {x : Int} (h : x.natAbs < 1152921504606846976) : Bd 60 x := h
theorem Bd.fdiv {n : Nat} {x y : Int} (h : Bd n x) : Bd n (x.fdiv y) := by
  unfold Bd at *
  exact Nat.lt_of_le_of_lt (Int.natAbs_fdiv_le_natAbs x y) h
theorem Bd.mod {n : Nat} {x y : Int} (h : Bd n y) (hy : y ≠ 0) : Bd n (x % y) := by
  unfold Bd at *
  have h0 := Int.emod_nonneg x hy
  have h1 := Int.emod_lt x hy
  omega
theorem Bd.abs {n : Nat} {x : Int} (h : Bd n x) : Bd n (x.natAbs : Int) := by
  unfold Bd at *
  rw [Int.natAbs_natCast]
  exact h
theorem Bd.div {n : Nat} {x y : Int} (h : Bd n x) : Bd n (x / y) := by
  unfold Bd at *
  exact Nat.lt_of_le_of_lt (Int.natAbs_ediv_le_natAbs x y) h
theorem bdm {n m : Nat} {x : Int} (h : Bd n x) (l : Nat.ble n m = true) : Bd m x := h.mono (Nat.le_of_ble_eq_true l)
theorem Bd.of {n : Nat} {x : Int} {m : Nat} (h : x.natAbs ≤ m) (l : m < 2 ^ n) : Bd n x := Nat.lt_of_le_of_lt h l
theorem Bd.mulW {n m : Nat} {x y : Int} (h1 : Bd n x) (h2 : Bd m y) (l : n + m ≤ 900000) : CMulW x y :=
  wide_mul (a := n + 1) (b := m + 1) (h1.mono (Nat.le_succ n)) (h2.mono (Nat.le_succ m)) (Nat.succ_pos n) (Nat.succ_pos m) (by omega)
theorem Bd.x4 {n m : Nat} {x y : Int} (h1 : Bd n x) (l : n ≤ m) (h : y = x) : Bd m y := h ▸ h1.mono l
/-! ### heaps -/
theorem same_seqT {K : PySem.W.Frag} {H H' : Hp} {a : Addr} {xs : List V} (e : Same H H') (h : SqT K H a xs) : SqT K H' a xs := by
  rcases h with (h | ⟨o, h⟩) | h
  · exact .inl (.inl (e _ _ h))
  · exact .inl (.inr ⟨o, e _ _ h⟩)
  · exact .inr h
/-- tuples stay -/
def KT (K : PySem.W.Frag) (H H' : Hp) : Prop := ∀ a xs, SqT K H a xs → SqT K H' a xs
/-- all but p stays -/
def Frm (p : Addr) (H H' : Hp) : Prop := ∀ b, b ≠ p → H' b = H b
/-- all that was tracked, but p, stays -/
def Kp (p : Addr) (H H' : Hp) : Prop := ∀ b o, b ≠ p → H b = some o → H' b = some o
theorem same_kt {K : PySem.W.Frag} {H H' : Hp} (e : Same H H') : KT K H H' := fun _ _ h => same_seqT e h
theorem same_kp {p : Addr} {H H' : Hp} (e : Same H H') : Kp p H H' := fun b o _ h => e b o h
theorem frm_kp {p : Addr} {H H' : Hp} (f : Frm p H H') : Kp p H H' := fun b o n h => (f b n).trans h
theorem Kp.refl {p : Addr} {H : Hp} : Kp p H H := fun b o _ h => h
theorem Kp.trans {p : Addr} {H H1 H2 : Hp} (a : Kp p H H1) (b : Kp p H1 H2) : Kp p H H2 := fun c o n h => b c o n (a c o n h)
theorem KT.trans {K : PySem.W.Frag} {H H1 H2 : Hp} (a : KT K H H1) (b : KT K H1 H2) : KT K H H2 := fun c xs h => b c xs (a c xs h)
theorem KT.refl {K : PySem.W.Frag} {H : Hp} : KT K H H := fun _ _ h => h
theorem kpB {p : Addr} {H H1 H' : Hp} (e : Kp p H1 H') (s : Kp p H H1) : Kp p H H' := s.trans e
theorem sameB {H H1 H' : Hp} (e : Same H1 H') (s : Same H H1) : Same H H' := s.trans e
theorem same_at {H H' : Hp} {a : Addr} {o : HO} (e : Same H H') (h : H a = some o) : H' a = some o := e _ _ h
theorem kp_at {p : Addr} {H H' : Hp} {a : Addr} {o : HO} (e : Kp p H H') (n : a ≠ p) (h : H a = some o) : H' a = some o := e _ _ n h
theorem KT.use {K : PySem.W.Frag} {H H' : Hp} {a : Addr} {xs : List V} (e : KT K H H') (h : SqT K H a xs) : SqT K H' a xs := e a xs h
theorem Kp.kt {K : PySem.W.Frag} {H H' : Hp} {p a : Addr} {N : Nat} (f : Kp p H H') (d : Dw H p a N) : KT K H H' := fun c xs h => by
  obtain ⟨m, ns, h1, h2, h3, h4⟩ := d
  rcases h with (h | ⟨o, h⟩) | h
  · refine .inl (.inl (f c _ ?_ h))
    rintro rfl
    rw [h3] at h
    cases h
  · refine .inl (.inr ⟨o, f c _ ?_ h⟩)
    rintro rfl
    rw [h3] at h
    cases h
  · exact .inr h
theorem kp_seqT {K : PySem.W.Frag} {H H' : Hp} {p a b : Addr} {N : Nat} {xs : List V} (f : Kp p H H') (d : Dw H p a N) (h : SqT K H b xs) : SqT K H' b xs := f.kt d b xs h
theorem Kp.seqL {K : PySem.W.Frag} {p : Addr} {H H' : Hp} {a : Addr} {xs : List V} (f : Kp p H H') (n : a ≠ p) (h : SqL K H a xs) : SqL K H' a xs := by
  rcases h with (h | ⟨o, h⟩) | h
  · exact .inl (.inl (f _ _ n h))
  · exact .inl (.inr ⟨o, f _ _ n h⟩)
  · exact .inr h
theorem Dw.kp0 {H : Hp} {p a q : Addr} {o : HO} (h : H q = none) : Kp p H (upd H q o) := same_kp (same_upd h)
theorem fresh_ne {H : Hp} {o p a : Addr} {N : Nat} (h : H o = none) (d : Dw H p a N) : o ≠ p := (d.ne h).1
section
variable {X : Cx}
def rAbs (_ : PySem.W.Frag) : List V → Hp → VK → Prop := fun xs H Q => ∃ i : Int, xs = [.int i] ∧ Q (.int (i.natAbs : Int)) H
def rInt (_ : PySem.W.Frag) : List V → Hp → VK → Prop := fun xs H Q => (∃ i : Int, xs = [.int i] ∧ Q (.int i) H) ∨ ∃ k : Bool, xs = [.bl k] ∧ Q (.int (if k then 1 else 0)) H
theorem absQ (K : PySem.W.Frag) : CallR X (.builtin "abs") (rAbs K) := by
  intro pins s σ H xs us Q I r h
  obtain ⟨i, e, q⟩ := h
  exact call_abs pins s σ H xs us Q I r ⟨i, e, by rw [abs_int]; exact q⟩
theorem intQ (K : PySem.W.Frag) : CallR X (.type "int") (rInt K) := call_int1
theorem minQ (K : PySem.W.Frag) (hc : X.calm = true := by rfl) (h : X.K = K := by rfl) : CallR X (.builtin "min") (rMin K) := by
  subst h
  exact cr_min hc
theorem pgT (K : PySem.W.Frag) (n : Nat) {es : List Expr} {k : Nat} {pos : Pos} {t : TGs} (hc : X.calm = true) (h : PGs X es t) (hn : (assignEach es X.env).length = n := by rfl) (hst : (assignEach es X.env).findIdx? (·.1) = none := by rfl) (hK : X.K = K := by rfl) : PG X (.Tuple es k pos) (gTup K n t) := by
  subst hK
  exact pg_tup hc h hn hst
end
namespace R
section
variable {K : PySem.W.Frag} {σ : L2.St} {H : Hp} {Q : VK} {ta tb te : TE} {v x y : V} {i j : Int}
theorem var {n : Nat} (h : σ[n]? = some (some v)) (q : Q v H) : tVar n σ H Q := ⟨v, h, q⟩
theorem con (q : Q v H) : tC v σ H Q := q
theorem op {r : R2} (h : ta σ H fun x H1 => tb σ H1 fun y H2 => r x y H2 Q) : tOp r ta tb σ H Q := h
theorem un {r : V → Hp → VK → Prop} (h : ta σ H fun x H1 => r x H1 Q) : tUn r ta σ H Q := h
theorem i0 {g : Int → Int → V} (q : Q (g i j) H) : rI0 g (.int i) (.int j) H Q := ⟨i, j, rfl, rfl, q⟩
theorem i2 {C : Int → Int → Prop} {g : Int → Int → V} (c : C i j) (q : Q (g i j) H) : rI C g (.int i) (.int j) H Q := ⟨i, j, rfl, rfl, c, q⟩
theorem u1 {g : Int → V} (q : Q (g i) H) : rU g (.int i) H Q := ⟨i, rfl, q⟩
theorem ixT {p : Addr} {xs : List V} (h : SqT K H p xs) (e : atI xs i = some v) (q : Q v H) : rIxT K (.ref p) (.int i) H Q := ⟨p, xs, i, v, rfl, rfl, h, e, q⟩
theorem ixL {p : Addr} {xs : List V} (h : SqL K H p xs) (e : atI xs i = some v) (q : Q v H) : rIxL K (.ref p) (.int i) H Q := ⟨p, xs, i, v, rfl, rfl, h, e, q⟩
theorem nil {Q : List V → Hp → Prop} (q : Q [] H) : tNil σ H Q := q
theorem cons {tr : TA} {Q : List V → Hp → Prop} (h : ta σ H fun x H1 => tr σ H1 fun xs H2 => Q (x :: xs) H2) : tCons ta tr σ H Q := h
/-- what is wanted of a new tuple, a new list -/
def NwT (H : Hp) (xs : List V) (Q : VK) : Prop := xs.length ≤ sizeLine ∧ ∀ p, H p = none → Q (.ref p) (upd H p (.tup xs))
def NwL (H : Hp) (xs : List V) (Q : VK) : Prop := xs.length ≤ sizeLine ∧ ∀ p, H p = none → Q (.ref p) (upd H p (.lst xs))
def Nw (H : Hp) (xs : List V) (Q : VK) : Prop := ∀ H' t, Same H H' → H' t = some (.tup xs) → Q (.ref t) H'
theorem nw {xs : List V} (h : ∀ H' t, Same H H' → H' t = some (.tup xs) → Q (.ref t) H') : Nw H xs Q := h
def Mt (H : Hp) (xs : List V) (Q : VK) : Prop := ∀ H' p, Same H H' → H p = none → H' p = some (.tup xs) → Q (.ref p) H'
def Ml (H : Hp) (xs : List V) (Q : VK) : Prop := ∀ H' p, Same H H' → H p = none → H' p = some (.lst xs) → Q (.ref p) H'
theorem mt {xs : List V} (h : ∀ H' p, Same H H' → H p = none → H' p = some (.tup xs) → Q (.ref p) H') : Mt H xs Q := h
theorem ml {xs : List V} (h : ∀ H' p, Same H H' → H p = none → H' p = some (.lst xs) → Q (.ref p) H') : Ml H xs Q := h
theorem tup {t : TA} (h : t σ H fun xs H1 => NwT H1 xs Q) : tTup t σ H Q := h
theorem lst {t : TA} (h : t σ H fun xs H1 => NwL H1 xs Q) : tLst t σ H Q := h
theorem nwT {xs : List V} (l : Nat.ble xs.length 1000 = true) (q : Mt H xs Q) : NwT H xs Q :=
  ⟨Nat.le_of_lt (small1000 (Nat.le_of_ble_eq_true l)), fun p n => q _ p (same_upd n) n upd_same⟩
theorem nwL {xs : List V} (l : Nat.ble xs.length 1000 = true) (q : Ml H xs Q) : NwL H xs Q :=
  ⟨Nat.le_of_lt (small1000 (Nat.le_of_ble_eq_true l)), fun p n => q _ p (same_upd n) n upd_same⟩
theorem call {sp : Sp} {dvs : List V} {E : XK} {t : TA} (h : t σ H fun vs H1 => sp (vs ++ dvs) H1 Q E) : tCall sp dvs E t σ H Q := h
theorem callB {r : List V → Hp → VK → Prop} {t : TA} (h : t σ H fun vs H1 => r vs H1 Q) : tCB r t σ H Q := h
theorem gname {n : Nat} {Q : L2.St → Hp → Prop} (h : Q (σ.set n (some v)) H) : gName n v σ H Q := h
theorem gtup {n : Nat} {t : TGs} {a : Addr} {xs : List V} {Q : L2.St → Hp → Prop} (h1 : SqT K H a xs) (h2 : xs.length = n) (h : t xs σ H Q) : gTup K n t (.ref a) σ H Q := ⟨a, xs, rfl, h1, h2, h⟩
theorem gcons {t : TG} {u : TGs} {r : List V} {Q : L2.St → Hp → Prop} (h : t v σ H fun σ' H' => u r σ' H' Q) : gCons t u (v :: r) σ H Q := ⟨v, r, rfl, h⟩
theorem gnil {Q : L2.St → Hp → Prop} (h : Q σ H) : gNil [] σ H Q := ⟨rfl, h⟩
variable {nx : L2.St → Hp → Prop} {rt : VK} {bk ct : L2.St → Hp → Prop} {t u : TS} {c : TT}
theorem seq (h : t (Ends.mk (u (Ends.mk nx rt bk ct)) rt bk ct) σ H) : tSeq t u (Ends.mk nx rt bk ct) σ H := h
theorem asg {g : TG} (h : te σ H fun x H1 => g x σ H1 nx) : tAsg te g (Ends.mk nx rt bk ct) σ H := h
theorem brk (h : bk σ H) : tBreak (Ends.mk nx rt bk ct) σ H := h
theorem cont (h : ct σ H) : tCont (Ends.mk nx rt bk ct) σ H := h
theorem ret (h : te σ H rt) : tRet te (Ends.mk nx rt bk ct) σ H := h
theorem next (h : nx σ H) : tNext (Ends.mk nx rt bk ct) σ H := h
theorem drop (h : te σ H fun _ H1 => nx σ H1) : tDrop te (Ends.mk nx rt bk ct) σ H := h
theorem par {i j : Nat} {ta : TA} (h : ta σ H fun vs H1 => ∃ v w, vs = [v, w] ∧ nx ((σ.set i (some v)).set j (some w)) H1) : tPar i j ta (Ends.mk nx rt bk ct) σ H := h
theorem par3 {i j l : Nat} {ta : TA} (h : ta σ H fun vs H1 => ∃ u v w, vs = [u, v, w] ∧ nx (((σ.set i (some u)).set j (some v)).set l (some w)) H1) : tPar3 i j l ta (Ends.mk nx rt bk ct) σ H := h
theorem par4 {z : V} {P : V → V → V → Prop} (h : P x y z) : ∃ u v w, [x, y, z] = [u, v, w] ∧ P u v w := ⟨x, y, z, rfl, h⟩
theorem par2 {P : V → V → Prop} (h : P x y) : ∃ v w, [x, y] = [v, w] ∧ P v w := ⟨x, y, rfl, h⟩
theorem ifs (h : c σ H fun b H1 => if b = true then t (Ends.mk nx rt bk ct) σ H1 else u (Ends.mk nx rt bk ct) σ H1) : tIfS c t u (Ends.mk nx rt bk ct) σ H := h
theorem tif (h : c σ H fun b H1 => if b = true then ta σ H1 Q else tb σ H1 Q) : tIf c ta tb σ H Q := h
theorem test {Q : Bool → Hp → Prop} (h : te σ H fun x H' => ∃ k, x = .bl k ∧ Q k H') : tTest te σ H Q := h
theorem tb' {Q : Bool → Hp → Prop} (h : te σ H fun x H' => ∃ k, x = .bl k ∧ Q k H') : tB te σ H Q := h
theorem isbl {b : Bool} {P : Bool → Prop} (h : P b) : ∃ k, V.bl b = .bl k ∧ P k := ⟨b, rfl, h⟩
theorem cmp {p : Int → Int → Bool} (h : t2I ta tb (fun i j H2 => Q (.bl (p i j)) H2) σ H) : tCmp p ta tb σ H Q := h
theorem t2i {k : Int → Int → Hp → Prop} (h : ta σ H fun x H1 => tb σ H1 fun y H2 => ∃ i j, x = .int i ∧ y = .int j ∧ k i j H2) : t2I ta tb k σ H := h
theorem intp {k : Int → Int → Prop} (h : k i j) : ∃ a b : Int, V.int i = .int a ∧ V.int j = .int b ∧ k a b := ⟨i, j, rfl, rfl, h⟩
theorem cut {Mid : L2.St → Hp → Prop} (h1 : t (Ends.mk Mid rt bk ct) σ H) (h2 : ∀ σ' H', Mid σ' H' → u (Ends.mk nx rt bk ct) σ' H') : C8.tCut t u (Ends.mk nx rt bk ct) σ H := ⟨Mid, h1, h2⟩
variable {d : TT}
theorem and {Q : Bool → Hp → Prop} (h : c σ H fun k H1 => if k = true then d σ H1 Q else Q false H1) : tAnd c d σ H Q := h
theorem or {Q : Bool → Hp → Prop} (h : c σ H fun k H1 => if k = true then Q true H1 else d σ H1 Q) : tOr c d σ H Q := h
theorem not {Q : Bool → Hp → Prop} (h : c σ H fun k H1 => Q (!k) H1) : tNot c σ H Q := h
theorem andV (h : ta σ H fun x H1 => ∃ c, x = .bl c ∧ if c = true then tb σ H1 Q else Q (.bl false) H1) : tAndV ta tb σ H Q := h
theorem orV (h : ta σ H fun x H1 => ∃ c, x = .bl c ∧ if c = true then Q (.bl true) H1 else tb σ H1 Q) : tOrV ta tb σ H Q := h
theorem notV (h : ta σ H fun x H1 => ∃ c, x = .bl c ∧ Q (.bl (!c)) H1) : tNotV ta σ H Q := h
theorem chain {r r' : R2} {tc : TE} (h : ta σ H fun x H1 => tb σ H1 fun y H2 => r x y H2 fun z H3 => ∃ k, z = .bl k ∧ (if k = true then tc σ H3 fun w' H4 => r' y w' H4 Q else Q (.bl false) H3)) : tChain r r' ta tb tc σ H Q := h
theorem tupL {p : Addr} {ys : List V} (h : SqL K H p ys) (q : Mt H ys Q) : rTupQ K [.ref p] H Q := ⟨p, ys, rfl, .inl ⟨h, fun l n => q _ l (same_upd n) n upd_same⟩⟩
theorem lstL {p : Addr} {ys : List V} (h : SqL K H p ys) (q : Ml H ys Q) : rListQ K [.ref p] H Q := ⟨p, ys, rfl, .inl h, fun l n => q _ l (same_upd n) n upd_same⟩
theorem cat {l b : Addr} {xs zs : List V} (h1 : H l = some (.lst xs)) (h2 : H b = some (.lst zs)) (z : Nat.ble (xs.length + zs.length) 100000 = true) (q : Ml H (xs ++ zs) Q) : rCat (.ref l) (.ref b) H Q :=
  ⟨l, b, xs, zs, rfl, rfl, h1, h2, Nat.le_of_lt (Nat.lt_of_le_of_lt (Nat.le_of_ble_eq_true z) (by decide)), fun p n => q _ p (same_upd n) n upd_same⟩
theorem sl {r : V → Option Int → Option Int → Hp → VK → Prop} {tl th : TO} (h : te σ H fun x H1 => tl σ H1 fun l H2 => th σ H2 fun u H3 => r x l u H3 Q) : tSl r te tl th σ H Q := h
theorem noPart {Q : Option Int → Hp → Prop} (h : Q none H) : tNoPart σ H Q := h
theorem part {Q : Option Int → Hp → Prop} (h : te σ H fun x H1 => ∃ i, x = .int i ∧ Q (some i) H1) : tPart te σ H Q := h
theorem isInt {P : Int → Prop} (h : P i) : ∃ k, V.int i = .int k ∧ P k := ⟨i, rfl, h⟩
theorem slL {a : Addr} {xs : List V} {lo hi : Option Int} (h : SqL K H a xs) (q : Ml H (cutV xs lo hi) Q) : rSlL K (.ref a) lo hi H Q := ⟨a, xs, rfl, h, fun p n => q _ p (same_upd n) n upd_same⟩
theorem absI (q : Q (.int (i.natAbs : Int)) H) : rAbs K [.int i] H Q := ⟨i, rfl, q⟩
theorem intI (q : Q (.int i) H) : rInt K [.int i] H Q := .inl ⟨i, rfl, q⟩
theorem intB {b : Bool} (q : Q (.int (if b then 1 else 0)) H) : rInt K [.bl b] H Q := .inr ⟨b, rfl, q⟩
theorem lenT {p : Addr} {ys : List V} (h : SqT K H p ys) (q : Q (.int (ys.length : Int)) H) : rLenQ K [.ref p] H Q := ⟨p, ys, rfl, .inr h, q⟩
theorem lenL {p : Addr} {ys : List V} (h : SqL K H p ys) (q : Q (.int (ys.length : Int)) H) : rLenQ K [.ref p] H Q := ⟨p, ys, rfl, .inl h, q⟩
theorem eqS {a b : Str} (q : Q (.bl (decide (V.str a = V.str b))) H) : rEq (.str a) (.str b) H Q := ⟨rfl, q⟩
theorem eqBl {a b : Bool} (q : Q (.bl (decide (V.bl a = V.bl b))) H) : rEq (.bl a) (.bl b) H Q := ⟨rfl, q⟩
theorem neBl {a b : Bool} (q : Q (.bl (!decide (V.bl a = V.bl b))) H) : rNe (.bl a) (.bl b) H Q := ⟨rfl, q⟩
theorem isiTupS {a : Addr} {xs : List V} (h : SqT K H a xs) (q : Q (.bl true) H) : rIsi K [.ref a, .ty "tuple"] H Q := by
  rcases h with (h | ⟨o, h⟩) | ⟨o, its, n, h1, h2, _⟩
  · exact Wc.isiTup h q
  · exact ⟨_, _, _, _, true, rfl, ClsV.ty _, TyX.fTuple h, kit_ty (by decide +kernel), q⟩
  · exact ⟨_, _, _, _, true, rfl, ClsV.ty _, TyX.kTuple h1 h2, kit_ty (by decide +kernel), q⟩
theorem slT {a : Addr} {xs : List V} {lo hi : Option Int} (h : SqT K H a xs) (n : ¬ (HT.sIx xs.length 0 lo = 0 ∧ HT.sIx xs.length xs.length hi = xs.length)) (q : Mt H (cutV xs lo hi) Q) : rSlT K (.ref a) lo hi H Q := ⟨a, xs, rfl, h, n, fun p nn => q _ p (same_upd nn) nn upd_same⟩
theorem isiT {b : Bool} (q : Q (.bl true) H) : rIsi K [.bl b, .ty "bool"] H Q := Wc.isiT q
theorem isiTup {a : Addr} {xs : List V} (h : H a = some (.tup xs)) (q : Q (.bl true) H) : rIsi K [.ref a, .ty "tuple"] H Q := Wc.isiTup h q
theorem isiLst {a : Addr} {xs : List V} (h : H a = some (.lst xs)) (q : Q (.bl true) H) : rIsi K [.ref a, .ty "list"] H Q := Wc.isiLst h q
/-! == of tuples of ints -/
theorem eqB {ns ms : List Int} : PyData.eqv (.tuple (ns.map PyData.int)) (.tuple (ms.map PyData.int)) = decide (ns = ms) := by
  have h : ∀ ns ms : List Int, PyData.eqvAll (ns.map PyData.int) (ms.map PyData.int) = decide (ns = ms) := by
    intro ns
    induction ns with
    | nil => intro ms; cases ms <;> simp [PyData.eqvAll]
    | cons n ns ih => intro ms; cases ms with
      | nil => simp [PyData.eqvAll]
      | cons m ms =>
        rw [List.map_cons, List.map_cons, PyData.eqvAll, ih]
        by_cases h : n = m
        · simp [PyData.eqv, h]
        · simp [PyData.eqv, h]
  rw [PyData.eqv]
  exact h ns ms
theorem eqTs {p q : Addr} {ns ms : List Int} {b : Bool} (h1 : SqT K H p (ns.map V.int)) (h2 : SqT K H q (ms.map V.int)) (hb : b = decide (ns = ms)) (h : Q (.bl b) H) : rEqD K (.ref p) (.ref q) H Q :=
  ⟨_, _, .tup h1 (dp_ints ns), .tup h2 (dp_ints ms), shaped_intsT ns, shaped_intsT ms, by rw [eqB, ← hb]; exact h⟩
theorem neTs {p q : Addr} {ns ms : List Int} {b : Bool} (h1 : SqT K H p (ns.map V.int)) (h2 : SqT K H q (ms.map V.int)) (hb : b = decide (ns = ms)) (h : Q (.bl (!b)) H) : rNeD K (.ref p) (.ref q) H Q :=
  ⟨_, _, .tup h1 (dp_ints ns), .tup h2 (dp_ints ms), shaped_intsT ns, shaped_intsT ms, by rw [eqB, ← hb]; exact h⟩
variable {p q : Addr} {a b c d a' b' c' d' : Int}
theorem eq2 (h1 : SqT K H p [.int a, .int b]) (h2 : SqT K H q [.int a', .int b']) (h : Q (.bl (decide (a = a' ∧ b = b'))) H) : rEqD K (.ref p) (.ref q) H Q :=
  eqTs (ns := [a, b]) (ms := [a', b']) h1 h2 (by simp) h
theorem ne2 (h1 : SqT K H p [.int a, .int b]) (h2 : SqT K H q [.int a', .int b']) (h : Q (.bl (!decide (a = a' ∧ b = b'))) H) : rNeD K (.ref p) (.ref q) H Q :=
  neTs (ns := [a, b]) (ms := [a', b']) h1 h2 (by simp) h
theorem eq3 (h1 : SqT K H p [.int a, .int b, .int c]) (h2 : SqT K H q [.int a', .int b', .int c']) (h : Q (.bl (decide (a = a' ∧ b = b' ∧ c = c'))) H) : rEqD K (.ref p) (.ref q) H Q :=
  eqTs (ns := [a, b, c]) (ms := [a', b', c']) h1 h2 (by simp) h
theorem ne3 (h1 : SqT K H p [.int a, .int b, .int c]) (h2 : SqT K H q [.int a', .int b', .int c']) (h : Q (.bl (!decide (a = a' ∧ b = b' ∧ c = c'))) H) : rNeD K (.ref p) (.ref q) H Q :=
  neTs (ns := [a, b, c]) (ms := [a', b', c']) h1 h2 (by simp) h
theorem eq4 (h1 : SqT K H p [.int a, .int b, .int c, .int d]) (h2 : SqT K H q [.int a', .int b', .int c', .int d']) (h : Q (.bl (decide (a = a' ∧ b = b' ∧ c = c' ∧ d = d'))) H) : rEqD K (.ref p) (.ref q) H Q :=
  eqTs (ns := [a, b, c, d]) (ms := [a', b', c', d']) h1 h2 (by simp) h
theorem ne4 (h1 : SqT K H p [.int a, .int b, .int c, .int d]) (h2 : SqT K H q [.int a', .int b', .int c', .int d']) (h : Q (.bl (!decide (a = a' ∧ b = b' ∧ c = c' ∧ d = d'))) H) : rNeD K (.ref p) (.ref q) H Q :=
  neTs (ns := [a, b, c, d]) (ms := [a', b', c', d']) h1 h2 (by simp) h
/-! loops over ranges, comprehensions -/
def ForJ (J : It) (g : TG) (tb : TS) (D : Ends) (σ : L2.St) (H1 : Hp) : Prop := tFor (fun _ Hs R => R J Hs) g tb D σ H1
theorem forE {wi : TI} {g : TG} {tb : TS} {D : Ends} (h : wi σ H fun J H1 => ForJ J g tb D σ H1) : tFor wi g tb D σ H := h
def RgOne (vs : List V) (P : Int → Prop) : Prop := ∃ j : Int, vs = [.int j] ∧ -(2 ^ 62) ≤ j ∧ j < 2 ^ 62 ∧ P j
def RgTwo (vs : List V) (P : Int → Int → Prop) : Prop := ∃ i j : Int, vs = [.int i, .int j] ∧ (-(2 ^ 62) ≤ i ∧ i < 2 ^ 62 ∧ -(2 ^ 62) ≤ j ∧ j < 2 ^ 62) ∧ P i j
theorem rng1 {ta : TA} {R : It → Hp → Prop} (h : ta σ H fun vs H1 => RgOne vs fun j => R (Itr 0 j.toNat) H1) : iRng1 ta σ H R := h
theorem rng2 {ta : TA} {R : It → Hp → Prop} (h : ta σ H fun vs H1 => RgTwo vs fun i j => R (Itr i (j - i).toNat) H1) : iRng2 ta σ H R := h
theorem rg1 {P : Int → Prop} {j : Int} (h1 : -(2 ^ 62) ≤ j) (h2 : j < 2 ^ 62) (h : P j) : RgOne [.int j] P := ⟨j, rfl, h1, h2, h⟩
theorem rg2 {P : Int → Int → Prop} {i j : Int} (h1 : -(2 ^ 62) ≤ i) (h2 : i < 2 ^ 62) (h3 : -(2 ^ 62) ≤ j) (h4 : j < 2 ^ 62) (h : P i j) : RgTwo [.int i, .int j] P := ⟨i, j, rfl, ⟨h1, h2, h3, h4⟩, h⟩
theorem forN {lo : Int} {n : Nat} {g : TG} {tb : TS} {D : Ends} (Pv : Nat → L2.St → Hp → Prop) (h0 : Pv 0 σ H)
    (hs : ∀ i σ H, i < n → Pv i σ H → g (.int (lo + i)) σ H fun σ2 H2 => tb (Ends.mk (Pv (i + 1)) D.rt D.nx (Pv (i + 1))) σ2 H2) (hd : ∀ σ H, Pv n σ H → D.nx σ H) : ForJ (Itr lo n) g tb D σ H := for_range Pv h0 hs hd
def RefOne (v : V) (P : Addr → Prop) : Prop := ∃ a, v = .ref a ∧ P a
theorem itup {tl : TE} {R : It → Hp → Prop} (h : tl σ H fun x H1 => ∃ a, x = .ref a ∧ (∃ xs, SqT K H1 a xs) ∧ R (Itt K a) H1) : iTup K tl σ H R := h
theorem ilst {tl : TE} {R : It → Hp → Prop} (h : tl σ H fun x H1 => ∃ a, x = .ref a ∧ (∃ xs, SqL K H1 a xs) ∧ R (Itl K a) H1) : iList K tl σ H R := h
theorem refs {p : Addr} {xs : List V} {S : Addr → List V → Prop} {R : Addr → Prop} (h1 : S p xs) (h : R p) : ∃ a, V.ref p = .ref a ∧ (∃ ys, S a ys) ∧ R a := ⟨p, rfl, ⟨xs, h1⟩, h⟩
def LcJ (J : It) (g : TG) (tt : TT) (te : TE) (vs : List Nat) (σ : L2.St) (H1 : Hp) (Q : VK) : Prop := tLc (fun _ Hs R => R J Hs) g tt te vs σ H1 Q
theorem lcE {wi : TI} {g : TG} {tt : TT} {vs : List Nat} (h : wi σ H fun J H1 => LcJ J g tt te vs σ H1 Q) : tLc wi g tt te vs σ H Q := h
/-- [int for k in range(n)], each of them by c draws -/
theorem lcI {p a : Addr} {N c n : Nat} {lo : Int} {g : TG} {vs : List Nat} (P : Int → Prop) (hn : n ≤ 900) (d : Dw H p a N)
    (hs : ∀ i H' (Q' : VK), i < n → Dw H' p a (N + c * i) → Kp p H H' → (∀ x H4, P x → Dw H4 p a (N + c * i + c) → Kp p H' H4 → Q' (.int x) H4) → g (.int (lo + i)) (wipe σ vs) H' fun σ2 H2 => wipe σ2 vs = wipe σ vs ∧ te σ2 H2 Q')
    (hq : ∀ H' D (xs : List Int), H' D = some (.lst (xs.map V.int)) → xs.length = n → (∀ x ∈ xs, P x) → Dw H' p a (N + c * n) → Kp p H H' → H D = none → D ≠ p → Q (.ref D) H') : LcJ (Itr lo n) g tYes te vs σ H Q := by
  intro D nD
  have Dp := (d.ne nD).1
  have Da := (d.ne nD).2
  refine lc_range (lo := lo) (n := n) (fun i H' => ∃ xs : List Int, H' D = some (.lst (xs.map V.int)) ∧ xs.length = i ∧ (∀ x ∈ xs, P x) ∧ Dw H' p a (N + c * i) ∧ Kp p H H')
    ⟨[], upd_same, rfl, (fun x h => nomatch h), (d.new nD).mono (by omega), same_kp (same_upd nD)⟩ (fun i H5 hi ⟨xs, h1, h2, h3, h4, h5⟩ => ?_) (fun H5 ⟨xs, h1, h2, h3, h4, h5⟩ => hq H5 D xs h1 h2 h3 h4 h5 nD Dp)
  refine hs i H5 _ hi h4 h5 (fun x H4 px d4 k4 => ⟨_, k4 _ _ Dp h1, ?_, xs ++ [x], ?_, ?_, ?_, ?_, ?_⟩)
  · rw [List.length_map]
    exact small1000 (by omega)
  · rw [upd_same, List.map_append]
    rfl
  · rw [List.length_append, h2]
    rfl
  · intro z hz
    rcases List.mem_append.mp hz with hz | hz
    · exact h3 z hz
    · rw [List.mem_singleton.mp hz]
      exact px
  · have e : N + c * (i + 1) = N + c * i + c := by rw [Nat.mul_add, Nat.mul_one, Nat.add_assoc]
    rw [e]
    exact d4.mut Dp Da
  · intro b o hb e
    have e2 := k4 _ _ hb (h5 _ _ hb e)
    rw [upd_ne (ne_of_none e nD)]
    exact e2
/-- [f(x) for x in a tuple (a list) of ints] -/
theorem lcT {a : Addr} {ns : List Int} {g : TG} {vs : List Nat} (f : Int → Int) (hl : ns.length ≤ 900) (hT : SqT K H a (ns.map V.int))
    (hs : ∀ n H' (Q' : VK), n ∈ ns → Same H H' → Q' (.int (f n)) H' → g (.int n) (wipe σ vs) H' fun σ2 H2 => wipe σ2 vs = wipe σ vs ∧ te σ2 H2 Q')
    (hq : ∀ H' D, H' D = some (.lst ((ns.map f).map V.int)) → Same H H' → H D = none → Q (.ref D) H') : LcJ (Itt K a) g tYes te vs σ H Q := by
  intro D nD
  refine lc_tup (K := K) (a := a) (xs := ns.map V.int) (fun i H' => H' D = some (.lst (((ns.take i).map f).map V.int)) ∧ Same H H') ⟨upd_same, same_upd nD⟩ (fun i H' _ h => same_seqT h.2 hT) (fun i x H5 hx ⟨h1, h5⟩ => ?_) (fun H5 ⟨h1, h5⟩ => ?_)
  · rw [List.getElem?_map] at hx
    cases hn : ns[i]? with
    | none =>
      rw [hn] at hx
      cases hx
    | some n =>
      rw [hn] at hx
      cases hx
      refine hs n H5 _ (List.mem_of_getElem? hn) h5 ⟨_, h1, ?_, ?_, ?_⟩
      · rw [List.length_map, List.length_map, List.length_take]
        exact small1000 (by omega)
      · rw [upd_same, List.take_add_one, hn, List.map_append, List.map_append]
        rfl
      · exact same_mut h5 nD
  · rw [List.length_map, List.take_length] at h1
    exact hq H5 D h1 h5 nD
end
theorem isEq {α : Sort _} {a b : α} (h : a = b) : a = b := h
theorem bm {σ : L2.St} {H : Hp} {Q : VK} {T : String} {r : V → List V → Hp → VK → Prop} {to : TE} {t : TA} {K : PySem.W.Frag} (h : to σ H fun x H1 => tyV K T x H1 ∧ t σ H1 fun xs H2 => r x xs H2 Q) : tBM K T r to t σ H Q := h
theorem bmT {H : Hp} {K : PySem.W.Frag} {p : Addr} {xs : List V} {B : Prop} (h1 : H p = some (.lst xs)) (h2 : B) : tyV K "list" (.ref p) H ∧ B := ⟨.inl ⟨rfl, _, SqL.of h1⟩, h2⟩
theorem app {H : Hp} {Q : VK} {l : Addr} {xs : List V} {y : V} (h : H l = some (.lst xs)) (z : xs.length ≤ 1000000) (q : ∀ H', H' = upd H l (.lst (xs ++ [y])) → H' l = some (.lst (xs ++ [y])) → Q .non H') : rAppend (.ref l) [y] H Q :=
  ⟨l, xs, y, rfl, rfl, h, Nat.lt_of_le_of_lt z (by decide), q _ rfl upd_same⟩
theorem dput {σ : L2.St} {H : Hp} {td ty tv : TE} {nx : L2.St → Hp → Prop} {rt : VK} {bk ct : L2.St → Hp → Prop} (h : tv σ H fun v H1 => td σ H1 fun x H2 => ty σ H2 fun y H3 => ∃ a H4, x = .ref a ∧ DPut H3 a y v H4 ∧ nx σ H4) : sDPut td ty tv (Ends.mk nx rt bk ct) σ H := h
theorem dget {σ : L2.St} {H : Hp} {Q : VK} {td ty : TE} (h : td σ H fun x H1 => ty σ H1 fun y H2 => ∃ a v, x = .ref a ∧ DGet H2 a y (some v) ∧ Q v H2) : tDGet td ty σ H Q := h
theorem din {σ : L2.St} {H : Hp} {Q : VK} {td ty : TE} (h : ty σ H fun y H1 => td σ H1 fun x H2 => ∃ a o, x = .ref a ∧ DGet H2 a y o ∧ Q (.bl o.isSome) H2) : tDIn ty td σ H Q := h
theorem dget2 {σ : L2.St} {H : Hp} {Q : VK} {td ty tx : TE} (h : td σ H fun x H1 => ∃ a, x = .ref a ∧ IsD H1 a ∧ ty σ H1 fun y H2 => tx σ H2 fun z H3 => ∃ o, DGet H3 a y o ∧ Q (o.getD z) H3) : tDGet2 td ty tx σ H Q := h
/-! slots behind many stores -/
def LenOk (n : Nat) (σ : L2.St) : Prop := n < σ.length
theorem lenS {n m : Nat} {σ : L2.St} {x : Option V} (h : LenOk n σ) : LenOk n (σ.set m x) := by
  unfold LenOk at *
  rw [List.length_set]
  exact h
theorem lenB {n : Nat} {σ : L2.St} (h : Nat.ble (n + 1) σ.length = true) : LenOk n σ := Nat.le_of_ble_eq_true h
theorem gsE {n : Nat} {σ : L2.St} {x r : Option V} (h : LenOk n σ) (e : some x = some r) : (σ.set n x)[n]? = some r := by
  rw [List.getElem?_set_self h]
  exact e
theorem gsN {n m : Nat} {σ : L2.St} {x : Option V} {r : Option (Option V)} (h : Nat.beq m n = false) (e : σ[n]? = r) : (σ.set m x)[n]? = r := by
  rw [List.getElem?_set_ne (fun z => by rw [z, Nat.beq_refl] at h; cases h)]
  exact e
theorem isLeI {a b : Int} (h : a ≤ b) : a ≤ b := h
theorem cdiv {i j : Int} (h : decide (0 < j ∧ j < 1073741824) = true) : CDiv i j := of_decide_eq_true (p := 0 < j ∧ j < 1073741824) h
theorem cpow {i j : Int} (h : decide (0 ≤ j ∧ j ≤ 1000000 ∧ i.natAbs < 2 ^ 64) = true) : CPow i j := of_decide_eq_true (p := 0 ≤ j ∧ j ≤ 1000000 ∧ i.natAbs < 2 ^ 64) h
theorem gBd {n : Nat} {x : Int} (h : Bd n x) : Bd n x := h
theorem gSqT {K : PySem.W.Frag} {H : Hp} {a : Addr} {xs : List V} (h : SqT K H a xs) : SqT K H a xs := h
theorem notT {A B : Prop} (h : B) : if (!true) = true then A else B := h
theorem notF {A B : Prop} (h : A) : if (!false) = true then A else B := h
theorem isNe {α : Sort _} {a b : α} (h : a ≠ b) : a ≠ b := h
theorem cdivX {n : Nat} {i j : Int} (h1 : j ≠ 0) (h2 : Bd n j) (l : Nat.ble n 9000 = true) : CDivX i j := ⟨h1, Nat.lt_of_lt_of_le h2 (Nat.pow_le_pow_right (by decide) (Nat.le_of_ble_eq_true l))⟩
theorem isLe {a b : Nat} (h : a ≤ b) : a ≤ b := h
theorem isLtI {a b : Int} (h : a < b) : a < b := h
theorem isLt {a b : Nat} (h : a < b) : a < b := h
end R
/-! unpacking of a list -/
theorem pgU {X : Cx} (K : PySem.W.Frag) (n : Nat) {es : List Expr} {k : Nat} {pos : Pos} {t : TGs} (hc : X.calm = true) (h : PGs X es t) (hn : (assignEach es X.env).length = n := by rfl) (hst : (assignEach es X.env).findIdx? (·.1) = none := by rfl) (hK : X.K = K := by rfl) : PG X (.Tuple es k pos) (gUnl K n t) := by
  subst hK
  exact pg_unl hc h hn hst
theorem r_gunl {K : PySem.W.Frag} {σ : L2.St} {H : Hp} {n : Nat} {t : TGs} {a : Addr} {xs : List V} {Q : L2.St → Hp → Prop} (h1 : SqL K H a xs) (h2 : xs.length = n) (h : t xs σ H Q) : gUnl K n t (.ref a) σ H Q := ⟨a, xs, rfl, h1, h2, h⟩

/-! ### lists of tuples of ints -/
def tD (t : List Int) : PyData := .tuple (t.map PyData.int)
inductive Tps (K : PySem.W.Frag) (H : Hp) : List V → List (List Int) → Prop where
  | nil : Tps K H [] []
  | cons {a : Addr} {t : List Int} {vs : List V} {ts : List (List Int)} : SqT K H a (t.map V.int) → Tps K H vs ts → Tps K H (.ref a :: vs) (t :: ts)
theorem Tps.kt {K : PySem.W.Frag} {H H' : Hp} (s : KT K H H') : ∀ {vs : List V} {ts : List (List Int)}, Tps K H vs ts → Tps K H' vs ts
  | _, _, .nil => .nil
  | _, _, .cons h t => .cons (s _ _ h) (t.kt s)
theorem Tps.same {K : PySem.W.Frag} {H H' : Hp} {vs : List V} {ts : List (List Int)} (h : Tps K H vs ts) (s : Same H H') : Tps K H' vs ts := h.kt (same_kt s)
theorem Tps.len {K : PySem.W.Frag} {H : Hp} : ∀ {vs : List V} {ts : List (List Int)}, Tps K H vs ts → vs.length = ts.length
  | _, _, .nil => rfl
  | _, _, .cons _ t => by rw [List.length_cons, List.length_cons, t.len]
theorem Tps.app {K : PySem.W.Frag} {H : Hp} : ∀ {vs ws : List V} {ts us : List (List Int)}, Tps K H vs ts → Tps K H ws us → Tps K H (vs ++ ws) (ts ++ us)
  | _, _, _, _, .nil, h => h
  | _, _, _, _, .cons a t, h => .cons a (t.app h)
theorem Tps.snoc {K : PySem.W.Frag} {H : Hp} {vs : List V} {ts : List (List Int)} {a : Addr} {t : List Int} (h : Tps K H vs ts) (s : SqT K H a (t.map V.int)) : Tps K H (vs ++ [.ref a]) (ts ++ [t]) := h.app (.cons s .nil)
theorem Tps.at {K : PySem.W.Frag} {H : Hp} : ∀ {vs : List V} {ts : List (List Int)} {i : Nat} {x : V}, Tps K H vs ts → vs[i]? = some x → ∃ a t, x = .ref a ∧ ts[i]? = some t ∧ SqT K H a (t.map V.int)
  | _, _, _, _, .nil, h => by cases h
  | _, _, 0, _, .cons s t, h => by
    cases h
    exact ⟨_, _, rfl, rfl, s⟩
  | _, _, i + 1, _, .cons s t, h => t.at (i := i) h
theorem Tps.dp {K : PySem.W.Frag} {H : Hp} : ∀ {vs : List V} {ts : List (List Int)}, Tps K H vs ts → DpAll K H vs (ts.map tD)
  | _, _, .nil => .nil
  | _, _, .cons h t => .cons (.tup h (dp_ints _)) t.dp
theorem lay_tups : ∀ ts : List (List Int), PyData.canLayAll0 (ts.map tD) = true
  | [] => rfl
  | t :: ts => by
    rw [List.map_cons, PyData.canLayAll0, lay_tups ts]
    unfold tD
    rw [PyData.canLay0, lay_ints]
    rfl
theorem depth_tups : ∀ ts : List (List Int), PyData.depthAll (ts.map tD) ≤ 1
  | [] => by rw [List.map_nil, PyData.depthAll]; decide
  | t :: ts => by
    rw [List.map_cons, PyData.depthAll]
    unfold tD
    rw [PyData.depth, depth_ints]
    exact Nat.max_le.mpr ⟨by decide, depth_tups ts⟩
theorem shaped_tups (ts : List (List Int)) : SeqAt.shaped (.list (ts.map tD)) = true := by
  show (PyData.canLay0 (.list (ts.map tD)) && decide (PyData.depth (.list (ts.map tD)) ≤ 64)) = true
  rw [Bool.and_eq_true]
  refine ⟨by rw [PyData.canLay0]; exact lay_tups ts, decide_eq_true ?_⟩
  rw [PyData.depth]
  have := depth_tups ts
  omega
theorem shaped_tupsT (ts : List (List Int)) : SeqAt.shaped (.tuple (ts.map tD)) = true := by
  show (PyData.canLay0 (.tuple (ts.map tD)) && decide (PyData.depth (.tuple (ts.map tD)) ≤ 64)) = true
  rw [Bool.and_eq_true]
  refine ⟨by rw [PyData.canLay0]; exact lay_tups ts, decide_eq_true ?_⟩
  rw [PyData.depth]
  have := depth_tups ts
  omega
theorem eqvAll_tups : ∀ ts us : List (List Int), PyData.eqvAll (ts.map tD) (us.map tD) = decide (ts = us)
  | [], [] => by simp [PyData.eqvAll]
  | [], _ :: _ => by simp [PyData.eqvAll]
  | _ :: _, [] => by simp [PyData.eqvAll]
  | t :: ts, u :: us => by
    rw [List.map_cons, List.map_cons, PyData.eqvAll, eqvAll_tups ts us]
    unfold tD
    rw [R.eqB]
    by_cases h : t = u <;> simp [h]
theorem any_tups (t : List Int) : ∀ ts : List (List Int), (ts.map tD).any (fun z => PyData.eqv z (tD t)) = decide (t ∈ ts)
  | [] => by simp
  | u :: ts => by
    rw [List.map_cons, List.any_cons, any_tups t ts]
    have e : PyData.eqv (tD u) (tD t) = decide (u = t) := R.eqB
    rw [e]
    by_cases h : u = t
    · subst h
      simp
    · have h2 : ¬ t = u := fun z => h z.symm
      by_cases h3 : t ∈ ts <;> simp [h, h2, h3]
namespace R
theorem eqTps {K : PySem.W.Frag} {H : Hp} {Q : VK} {p q : Addr} {vs ws : List V} {ts us : List (List Int)} (h1 : SqL K H p vs) (t1 : Tps K H vs ts) (h2 : SqL K H q ws) (t2 : Tps K H ws us) (h : Q (.bl (decide (ts = us))) H) : rEqD K (.ref p) (.ref q) H Q := by
  refine ⟨_, _, .lst h1 t1.dp, .lst h2 t2.dp, shaped_tups _, shaped_tups _, ?_⟩
  rw [PyData.eqv, eqvAll_tups]
  exact h
theorem neTps {K : PySem.W.Frag} {H : Hp} {Q : VK} {p q : Addr} {vs ws : List V} {ts us : List (List Int)} (h1 : SqL K H p vs) (t1 : Tps K H vs ts) (h2 : SqL K H q ws) (t2 : Tps K H ws us) (h : Q (.bl (!decide (ts = us))) H) : rNeD K (.ref p) (.ref q) H Q := by
  refine ⟨_, _, .lst h1 t1.dp, .lst h2 t2.dp, shaped_tups _, shaped_tups _, ?_⟩
  rw [PyData.eqv, eqvAll_tups]
  exact h
theorem notInT {K : PySem.W.Frag} {H : Hp} {Q : VK} {p q : Addr} {vs : List V} {t : List Int} {ts : List (List Int)} (h1 : SqT K H p (t.map V.int)) (h2 : SqL K H q vs) (t2 : Tps K H vs ts) (h : Q (.bl (!decide (t ∈ ts))) H) : rNotInD K (.ref p) (.ref q) H Q := by
  refine ⟨_, _, .tup h1 (dp_ints _), .lst h2 t2.dp, shaped_intsT _, shaped_tups _, ?_⟩
  have e := any_tups t ts
  unfold tD at e
  rw [show (ts.map tD) = ts.map fun t => .tuple (t.map PyData.int) from rfl, e]
  exact h
theorem inT {K : PySem.W.Frag} {H : Hp} {Q : VK} {p q : Addr} {vs : List V} {t : List Int} {ts : List (List Int)} (h1 : SqT K H p (t.map V.int)) (h2 : SqL K H q vs) (t2 : Tps K H vs ts) (h : Q (.bl (decide (t ∈ ts))) H) : rInD K (.ref p) (.ref q) H Q := by
  refine ⟨_, _, .tup h1 (dp_ints _), .lst h2 t2.dp, shaped_intsT _, shaped_tups _, ?_⟩
  have e := any_tups t ts
  unfold tD at e
  rw [show (ts.map tD) = ts.map fun t => .tuple (t.map PyData.int) from rfl, e]
  exact h
end R
theorem room65 {k : Nat} {A : Around} (r : Room k A) : A.units + 65 < cLine := by
  have := r.un
  omega
theorem notInDQ {X : Cx} (K : PySem.W.Frag) (hu : X.A.units + 65 < cLine) (h : X.K = K := by rfl) : OpR X (compareOp .NotIn) (rNotInD K) := by
  subst h
  exact op_notInD hu
theorem inDQ {X : Cx} (K : PySem.W.Frag) (hu : X.A.units + 65 < cLine) (h : X.K = K := by rfl) : OpR X (compareOp .In) (rInD K) := by
  subst h
  exact op_inD hu

/-! ### whole roots -/
section
variable {X : Cx}
theorem cr_isqrt : CallR X (.builtin "math.isqrt") (fun vs H Q => ∃ i : Int, vs = [.int i] ∧ 0 ≤ i ∧ i.natAbs < 2 ^ 13000 ∧ Q (.int ((Float64.isqrt i.toNat : Nat) : Int)) H) := by
  intro pins s σ H vs us Q I r h
  obtain ⟨i, rfl, h0, h1, q⟩ := h
  obtain ⟨u, rfl, t, rfl⟩ := vals1 r
  have hl : i.toNat.log2 < 13000 := PySem.Flt.log2_lt_of (by decide) (by omega)
  exact call_function_meets PySem.W.MGF.kind_isqrt PySem.W.MGF.plain_isqrt PySem.W.MGF.entry_isqrt (PySem.W.MGF.args_isqrt _) (PySem.W.mg_run_isqrt i t (by omega) (by omega) (by omega)).meets ⟨.int _, H, I.tok _, ⟨_, rfl⟩, q⟩
end
def rootI (n : Int) : Int := ((Float64.isqrt n.toNat : Nat) : Int)
theorem rootI_spec {n : Int} (h : 0 ≤ n) : 0 ≤ rootI n ∧ rootI n * rootI n ≤ n ∧ n < (rootI n + 1) * (rootI n + 1) := by
  obtain ⟨k, rfl⟩ := Int.eq_ofNat_of_zero_le h
  have e := Float64.isqrt_spec k
  unfold rootI
  have e2 : Int.toNat (k : Int) = k := rfl
  rw [e2]
  generalize Float64.isqrt k = m at e ⊢
  refine ⟨Int.natCast_nonneg m, ?_, ?_⟩
  · exact_mod_cast e.1
  · exact_mod_cast e.2
theorem rootI_lt {n : Int} {b : Nat} (h : 0 ≤ n) (hb : n.natAbs < 2 ^ b) : (rootI n).natAbs < 2 ^ b := by
  obtain ⟨h0, h1, h2⟩ := rootI_spec h
  have h3 : rootI n ≤ n := by
    by_cases e : rootI n = 0
    · omega
    · have h4 : 1 * rootI n ≤ rootI n * rootI n := Int.mul_le_mul_of_nonneg_right (by omega) h0
      omega
  omega
/-! ### common measures -/
def gI (a b : Int) : Int := ((Nat.gcd a.natAbs b.natAbs : Nat) : Int)
theorem gI_nn (a b : Int) : 0 ≤ gI a b := Int.natCast_nonneg _
theorem gI_lt {a b : Int} {B : Nat} (ha : a.natAbs < B) (hb : b.natAbs < B) : (gI a b).natAbs < B := by
  unfold gI
  rw [Int.natAbs_natCast]
  by_cases h : a.natAbs = 0
  · rw [h, Nat.gcd_zero_left]
    exact hb
  · exact Nat.lt_of_le_of_lt (Nat.gcd_le_left _ (by omega)) ha
def gL (ns : List Int) : Int := ns.foldl gI 0
theorem gL_take {ns : List Int} {i : Nat} {x : Int} (h : ns[i]? = some x) : gL (ns.take (i + 1)) = gI (gL (ns.take i)) x := by
  unfold gL
  rw [List.take_add_one, h, List.foldl_append]
  rfl
/-- one step of the walk of measures: what // and the rest are -/
theorem fd_rest {g r : Int} (h : r ≠ 0) : (g - g.fdiv r * r).natAbs < r.natAbs ∧ (0 < r → 0 ≤ g - g.fdiv r * r) ∧ (r < 0 → g - g.fdiv r * r ≤ 0) := by
  have e : g - g.fdiv r * r = g.fmod r := by
    rw [Int.fmod_def, Int.mul_comm]
  rw [e]
  by_cases hr : 0 < r
  · have h1 := Int.fmod_nonneg_of_pos g hr
    have h2 := Int.fmod_lt_of_pos g hr
    refine ⟨by omega, fun _ => h1, fun _ => by omega⟩
  · have h1 := Int.fmod_nonneg_of_pos (-g) (b := -r) (by omega)
    have h2 := Int.fmod_lt_of_pos (-g) (b := -r) (by omega)
    rw [Int.neg_fmod_neg] at h1 h2
    refine ⟨by omega, fun _ => by omega, fun _ => by omega⟩
theorem gcd_step (g q r : Int) : Nat.gcd r.natAbs (g - q * r).natAbs = Nat.gcd g.natAbs r.natAbs := by
  have e1 : Int.gcd r (g - q * r) = Int.gcd r g := by
    rw [Int.sub_eq_add_neg, ← Int.neg_mul]
    exact Int.gcd_add_mul_right_right ..
  have e2 : Int.gcd r g = Int.gcd g r := Int.gcd_comm r g
  exact e1.trans e2
theorem step_lt {g rest u ru q r B : Nat} (hg : g = q * rest + r) (h : ru * g + u * rest ≤ B) : (u + q * ru) * rest + ru * r ≤ B := by
  have e : (u + q * ru) * rest + ru * r = ru * g + u * rest := by
    rw [hg, Nat.add_mul, Nat.mul_add, Nat.mul_comm q ru, Nat.mul_assoc]
    omega
  omega
/-- the state of bezout's walk -/
def Bz (a b g u v r ru rv : Int) : Prop := u * a + v * b = g ∧ ru * a + rv * b = r ∧ (((Nat.gcd g.natAbs r.natAbs : Nat) : Int) = gI a b ∧ u.natAbs ≤ a.natAbs + 2 * b.natAbs + 1 ∧ v.natAbs ≤ a.natAbs + 2 * b.natAbs + 1) ∧
  ((g = a ∧ r = b ∧ u = 1 ∧ v = 0 ∧ ru = 0 ∧ rv = 1) ∨
    (((0 ≤ g ∧ 0 ≤ r) ∨ (g ≤ 0 ∧ r ≤ 0)) ∧ g.natAbs ≤ b.natAbs ∧ r.natAbs < g.natAbs ∧
      ru.natAbs * g.natAbs + u.natAbs * r.natAbs ≤ a.natAbs + 2 * b.natAbs ∧ rv.natAbs * g.natAbs + v.natAbs * r.natAbs ≤ a.natAbs + 2 * b.natAbs))
theorem same_div {g r : Int} (h : (0 ≤ g ∧ 0 < r) ∨ (g ≤ 0 ∧ r < 0)) : g.natAbs = (g.fdiv r).natAbs * r.natAbs + (g - g.fdiv r * r).natAbs := by
  have hr : r ≠ 0 := by omega
  obtain ⟨h1, h2, h3⟩ := fd_rest (g := g) hr
  have hq : 0 ≤ g.fdiv r := by
    rcases h with ⟨a, b⟩ | ⟨a, b⟩
    · exact Int.fdiv_nonneg a (by omega)
    · rw [← Int.neg_fdiv_neg]
      exact Int.fdiv_nonneg (by omega) (by omega)
  obtain ⟨q, e⟩ := Int.eq_ofNat_of_zero_le hq
  rw [e] at h2 h3 ⊢
  rcases h with ⟨a, b⟩ | ⟨a, b⟩
  · have k := h2 b
    have z : g = (q : Int) * r + (g - (q : Int) * r) := by omega
    obtain ⟨r', rfl⟩ := Int.eq_ofNat_of_zero_le (show 0 ≤ r by omega)
    have e2 : ((q * r' : Nat) : Int) = (q : Int) * (r' : Int) := Int.natCast_mul q r'
    rw [Int.natAbs_natCast, Int.natAbs_natCast]
    rw [← e2] at k ⊢
    omega
  · have k := h3 b
    obtain ⟨r', hr'⟩ := Int.eq_ofNat_of_zero_le (show 0 ≤ -r by omega)
    have er : r = -(r' : Int) := by omega
    subst er
    have e2 : ((q * r' : Nat) : Int) = (q : Int) * (r' : Int) := Int.natCast_mul q r'
    rw [Int.mul_neg, ← e2] at k ⊢
    rw [Int.natAbs_natCast, Int.natAbs_neg, Int.natAbs_natCast]
    omega
theorem abs_sub_mul (u q ru : Int) : (u - q * ru).natAbs ≤ u.natAbs + q.natAbs * ru.natAbs := by
  rw [← Int.natAbs_mul]
  omega
theorem natAbs_tri {g q r : Int} (k : (g - q).natAbs < r.natAbs) : q.natAbs ≤ g.natAbs + r.natAbs := by omega
theorem bz_q {g r : Int} (hr : r ≠ 0) : (g.fdiv r).natAbs ≤ g.natAbs + 1 ∧ (g.fdiv r).natAbs * r.natAbs ≤ g.natAbs + r.natAbs := by
  obtain ⟨k1, _, _⟩ := fd_rest (g := g) hr
  have z2 : (g.fdiv r).natAbs * r.natAbs ≤ g.natAbs + r.natAbs := by
    rw [← Int.natAbs_mul]
    exact natAbs_tri k1
  have r1 : 1 ≤ r.natAbs := by omega
  clear k1 hr
  refine ⟨?_, z2⟩
  generalize (g.fdiv r).natAbs = q at *
  generalize g.natAbs = G at *
  generalize r.natAbs = R at *
  by_cases z : q ≤ G + 1
  · exact z
  · have z4 : (G + 2) * R ≤ q * R := Nat.mul_le_mul_right _ (by omega)
    have z5 : G * 1 ≤ G * R := Nat.mul_le_mul_left _ r1
    rw [Nat.add_mul] at z4
    omega
theorem bz_le {A B G R U W q : Nat} (z3 : q ≤ G + 1) (e2 : G ≤ B) (e3 : R < G) (e4 : U * G + W * R ≤ A + 2 * B) : q ≤ A + B + 1 ∧ R ≤ B ∧ U ≤ A + 2 * B + 1 := by
  have z4 : U * 1 ≤ U * G := Nat.mul_le_mul_left _ (by omega)
  exact ⟨by omega, by omega, by omega⟩
theorem Bz.size {a b g u v r ru rv : Int} (h : Bz a b g u v r ru rv) (hr : r ≠ 0) : (g.fdiv r).natAbs ≤ a.natAbs + b.natAbs + 1 ∧ r.natAbs ≤ b.natAbs ∧ ru.natAbs ≤ a.natAbs + 2 * b.natAbs + 1 ∧ rv.natAbs ≤ a.natAbs + 2 * b.natAbs + 1 := by
  obtain ⟨h1, h2, h3, h4⟩ := h
  obtain ⟨z3, z2⟩ := bz_q (g := g) hr
  clear h1 h2 h3
  rcases h4 with ⟨e1, e2, e3, e4, e5, e6⟩ | ⟨e1, e2, e3, e4, e5⟩
  · subst e1 e2 e5 e6
    clear z2 hr e3 e4
    generalize (g.fdiv r).natAbs = q at *
    generalize g.natAbs = G at *
    generalize r.natAbs = R at *
    exact ⟨by omega, Nat.le_refl _, Nat.zero_le _, by show 1 ≤ _; omega⟩
  · obtain ⟨q1, q2, q3⟩ := bz_le z3 e2 e3 e4
    exact ⟨q1, q2, q3, (bz_le z3 e2 e3 e5).2.2⟩
theorem bz_lin (u v a b ru rv q : Int) : (u - q * ru) * a + (v - q * rv) * b = u * a + v * b - q * (ru * a + rv * b) := by
  rw [Int.sub_mul, Int.sub_mul, Int.mul_add, Int.mul_assoc, Int.mul_assoc]
  omega
theorem bz_sg {g r : Int} (hr : r ≠ 0) (h : (0 ≤ g ∧ 0 ≤ r) ∨ (g ≤ 0 ∧ r ≤ 0)) : (0 ≤ g ∧ 0 < r) ∨ (g ≤ 0 ∧ r < 0) := by omega
theorem bz_first {g r : Int} (hr : r ≠ 0) : (0 - g.fdiv r * 1).natAbs * r.natAbs + Int.natAbs 1 * (g - g.fdiv r * r).natAbs ≤ g.natAbs + 2 * r.natAbs := by
  obtain ⟨_, z2⟩ := bz_q (g := g) hr
  obtain ⟨k1, _, _⟩ := fd_rest (g := g) hr
  have z : (0 - g.fdiv r * 1).natAbs = (g.fdiv r).natAbs := by omega
  rw [z, show Int.natAbs 1 = 1 from rfl, Nat.one_mul]
  generalize (g.fdiv r).natAbs * r.natAbs = Y at *
  generalize (g - g.fdiv r * r).natAbs = Z at *
  generalize g.natAbs = G at *
  generalize r.natAbs = R at *
  clear z hr
  omega
theorem Bz.step {a b g u v r ru rv : Int} (h : Bz a b g u v r ru rv) (hr : r ≠ 0) : Bz a b r ru rv (g - g.fdiv r * r) (u - g.fdiv r * ru) (v - g.fdiv r * rv) := by
  have sz := h.size hr
  obtain ⟨h1, h2, h3, h4⟩ := h
  obtain ⟨k1, k2, k3⟩ := fd_rest (g := g) hr
  refine ⟨h2, ?_, ⟨by rw [gcd_step]; exact h3.1, sz.2.2⟩, .inr ⟨?_, ?_, k1, ?_, ?_⟩⟩
  · rw [bz_lin, h1, h2]
  · clear h1 h2 h3 h4 sz k1
    by_cases z : 0 < r
    · exact .inl ⟨Int.le_of_lt z, k2 z⟩
    · exact .inr ⟨Int.not_lt.mp z, k3 (by omega)⟩
  · rcases h4 with ⟨e1, e2, _⟩ | ⟨_, e2, e3, _⟩
    · rw [e2]
      exact Nat.le_refl _
    · exact Nat.le_of_lt (Nat.lt_of_lt_of_le e3 e2)
  · rcases h4 with ⟨e1, e2, e3, e4, e5, e6⟩ | ⟨e1, e2, e3, e4, e5⟩
    · clear h1 h2 h3 sz k1 k2 k3 e1 e4 e6 hr
      rw [e3, e5, e2]
      simp
      omega
    · exact Nat.le_trans (Nat.add_le_add_right (Nat.mul_le_mul_right _ (abs_sub_mul u (g.fdiv r) ru)) _) (step_lt (same_div (bz_sg hr e1)) e4)
  · rcases h4 with ⟨e1, e2, e3, e4, e5, e6⟩ | ⟨e1, e2, e3, e4, e5⟩
    · rw [e4, e6, ← e1, ← e2]
      exact bz_first hr
    · exact Nat.le_trans (Nat.add_le_add_right (Nat.mul_le_mul_right _ (abs_sub_mul v (g.fdiv r) rv)) _) (step_lt (same_div (bz_sg hr e1)) e5)

/-! ### the law's own root -/
theorem rootI_uniq {n r : Int} (h : 0 ≤ n) (h0 : 0 ≤ r) (h1 : r * r ≤ n) (h2 : n < (r + 1) * (r + 1)) : r = rootI n := by
  obtain ⟨k0, k1, k2⟩ := rootI_spec h
  generalize rootI n = s at k0 k1 k2 ⊢
  by_cases a : r < s
  · have z : (r + 1) * (r + 1) ≤ s * s := Int.mul_le_mul (by omega) (by omega) (by omega) (by omega)
    omega
  · by_cases b : s < r
    · have z : (s + 1) * (s + 1) ≤ r * r := Int.mul_le_mul (by omega) (by omega) (by omega) (by omega)
      omega
    · omega
theorem half_step {low high n : Int} {i : Nat} (h : low + 1 < high) (hi : (high - low - 1) * 2 ^ i ≤ n) : ((low + high) / 2 - low - 1) * 2 ^ (i + 1) ≤ n ∧ (high - (low + high) / 2 - 1) * 2 ^ (i + 1) ≤ n ∧ low < (low + high) / 2 ∧ (low + high) / 2 < high := by
  have e : (2 : Int) ^ (i + 1) = 2 * 2 ^ i := by rw [Int.pow_succ, Int.mul_comm]
  have p0 : (0 : Int) < 2 ^ i := Int.pow_pos (by decide)
  rw [e]
  generalize (2 : Int) ^ i = B at hi p0 ⊢
  have m1 : (low + high) / 2 - low - 1 ≤ (high - low - 1) / 2 := by omega
  have m2 : high - (low + high) / 2 - 1 ≤ (high - low - 1) / 2 := by omega
  have m3 : 2 * ((high - low - 1) / 2) ≤ high - low - 1 := by omega
  refine ⟨?_, ?_, by omega, by omega⟩
  · have a1 : ((low + high) / 2 - low - 1) * (2 * B) = (2 * ((low + high) / 2 - low - 1)) * B := by grind
    have a2 : (2 * ((low + high) / 2 - low - 1)) * B ≤ (high - low - 1) * B := Int.mul_le_mul_of_nonneg_right (by omega) (by omega)
    omega
  · have a1 : (high - (low + high) / 2 - 1) * (2 * B) = (2 * (high - (low + high) / 2 - 1)) * B := by grind
    have a2 : (2 * (high - (low + high) / 2 - 1)) * B ≤ (high - low - 1) * B := Int.mul_le_mul_of_nonneg_right (by omega) (by omega)
    omega

/-! ### forms -/
def dsc (a b c : Int) : Int := b * b - 4 * a * c
def fA (a b c p r : Int) : Int := a * p * p + b * p * r + c * r * r
def fB (a b c p q r s : Int) : Int := 2 * a * p * q + b * (p * s + q * r) + 2 * c * r * s
theorem actA (a b c p q r s x y : Int) : fA (fA a b c p r) (fB a b c p q r s) (fA a b c q s) x y = fA a b c (p * x + q * y) (r * x + s * y) := by
  unfold fA fB
  grind
theorem actB (a b c p q r s x y z w : Int) : fB (fA a b c p r) (fB a b c p q r s) (fA a b c q s) x z y w = fB a b c (p * x + q * y) (p * z + q * w) (r * x + s * y) (r * z + s * w) := by
  unfold fA fB
  grind
theorem dsc_act (a b c p q r s : Int) : dsc (fA a b c p r) (fB a b c p q r s) (fA a b c q s) = dsc a b c * ((p * s - q * r) * (p * s - q * r)) := by
  unfold dsc fA fB
  grind
theorem act_mid (a b c p q r s : Int) : a * (p + q) * (p + q) + b * (p + q) * (r + s) + c * (r + s) * (r + s) - (a * p * p + b * p * r + c * r * r) - (a * q * q + b * q * s + c * s * s) = 2 * a * p * q + b * (p * s + q * r) + 2 * c * r * s := by
  grind
def kindS (d : Int) : Str := if d < 0 then "definite" else if d = 0 then "flat" else if rootI d * rootI d = d then "split" else "indefinite"
/-- the forms that the law draws -/
def sortS (ind : Bool) : Str := if ind then "indefinite" else "definite"
def FormOk (ind : Bool) (a b c : Int) : Prop := a.natAbs ≤ 5 ∧ b.natAbs ≤ 6 ∧ c.natAbs ≤ 5 ∧ kindS (dsc a b c) = sortS ind
theorem kindS_ind {d : Int} (h : kindS d = "indefinite") : 0 < d ∧ rootI d * rootI d ≠ d := by
  unfold kindS at h
  by_cases z : d < 0
  · rw [if_pos z] at h
    exact absurd h (by decide)
  · rw [if_neg z] at h
    by_cases y : d = 0
    · rw [if_pos y] at h
      exact absurd h (by decide)
    · rw [if_neg y] at h
      by_cases x : rootI d * rootI d = d
      · rw [if_pos x] at h
        exact absurd h (by decide)
      · exact ⟨by omega, x⟩
theorem kindS_def {d : Int} (h : kindS d = "definite") : d < 0 := by
  unfold kindS at h
  by_cases z : d < 0
  · exact z
  · rw [if_neg z] at h
    by_cases y : d = 0
    · rw [if_pos y] at h
      exact absurd h (by decide)
    · rw [if_neg y] at h
      by_cases x : rootI d * rootI d = d
      · rw [if_pos x] at h
        exact absurd h (by decide)
      · rw [if_neg x] at h
        exact absurd h (by decide)
theorem uLawRoot0 {n : Int} (h : 0 ≤ n) : 0 ≤ rootI n ∧ rootI n ≤ n := by
  obtain ⟨a, b, c⟩ := rootI_spec h
  refine ⟨a, ?_⟩
  by_cases z : rootI n = 0
  · omega
  · have := Int.mul_le_mul_of_nonneg_right (show 1 ≤ rootI n by omega) a
    omega
theorem mul3 {x y z : Int} {X Y Z : Nat} (h1 : x.natAbs ≤ X) (h2 : y.natAbs ≤ Y) (h3 : z.natAbs ≤ Z) : (x * y * z).natAbs ≤ X * Y * Z := by
  rw [Int.natAbs_mul, Int.natAbs_mul]
  exact Nat.mul_le_mul (Nat.mul_le_mul h1 h2) h3
theorem abs3_le {x y z : Int} {Z : Nat} (h1 : x.natAbs ≤ Z) (h2 : y.natAbs ≤ Z) (h3 : z.natAbs ≤ Z) : (x + y + z).natAbs ≤ 3 * Z := by omega
theorem abs4_le {x y z w : Int} {Z : Nat} (h1 : x.natAbs ≤ Z) (h2 : y.natAbs ≤ Z) (h3 : z.natAbs ≤ Z) (h4 : w.natAbs ≤ Z) : (2 * x + y + z + 2 * w).natAbs ≤ 6 * Z := by omega
theorem act_size {a b c p q r s : Int} {C M : Nat} (ha : a.natAbs ≤ C) (hb : b.natAbs ≤ C) (hc : c.natAbs ≤ C) (hp : p.natAbs ≤ M) (hq : q.natAbs ≤ M) (hr : r.natAbs ≤ M) (hs : s.natAbs ≤ M) :
    (fA a b c p r).natAbs ≤ 3 * (C * M * M) ∧ (fB a b c p q r s).natAbs ≤ 6 * (C * M * M) ∧ (fA a b c q s).natAbs ≤ 3 * (C * M * M) := by
  have t1 := mul3 ha hp hp
  have t2 := mul3 hb hp hr
  have t3 := mul3 hc hr hr
  have t4 := mul3 ha hp hq
  have t5 := mul3 hb hp hs
  have t6 := mul3 hb hq hr
  have t7 := mul3 hc hr hs
  have t8 := mul3 ha hq hq
  have t9 := mul3 hb hq hs
  have t0 := mul3 hc hs hs
  have e : fB a b c p q r s = 2 * (a * p * q) + b * p * s + b * q * r + 2 * (c * r * s) := by
    unfold fB
    grind
  rw [e]
  exact ⟨abs3_le t1 t2 t3, abs4_le t4 t5 t6 t7, abs3_le t8 t9 t0⟩
theorem dsc_size {a b c : Int} {n : Int} (n0 : 0 ≤ n) (ha : (a.natAbs : Int) ≤ n) (hb : (b.natAbs : Int) ≤ n) (hc : (c.natAbs : Int) ≤ n) : -(5 * (n * n)) ≤ dsc a b c ∧ dsc a b c ≤ 5 * (n * n) := by
  have e1 : ((b * b).natAbs : Int) ≤ n * n := by
    rw [Int.natAbs_mul, Int.natCast_mul]
    exact Int.mul_le_mul hb hb (by omega) n0
  have e2 : ((a * c).natAbs : Int) ≤ n * n := by
    rw [Int.natAbs_mul, Int.natCast_mul]
    exact Int.mul_le_mul ha hc (by omega) n0
  unfold dsc
  rw [Int.mul_assoc]
  generalize b * b = x at *
  generalize a * c = y at *
  generalize n * n = z at *
  omega

/-! ### a op b op c op d -/
section
variable {X : Cx} {a b c d : Expr} {ta tb tc td : TE} {pos : Pos}
def tChain3 (r r' r'' : R2) (ta tb tc td : TE) : TE := fun σ H Q => ta σ H fun x H1 => tb σ H1 fun y H2 => r x y H2 fun z H3 => ∃ k, z = .bl k ∧
  (if k = true then tc σ H3 fun w' H4 => r' y w' H4 fun z2 H5 => ∃ k2, z2 = .bl k2 ∧ (if k2 = true then td σ H5 fun w2 H6 => r'' w' w2 H6 Q else Q (.bl false) H5) else Q (.bl false) H3)
theorem pe_chain3 {op op' op2 : CmpOp} {r r' r2' : R2} (ho : OpR X (compareOp op) r) (ho' : OpR X (compareOp op') r') (ho2 : OpR X (compareOp op2) r2') (ha : PE X a ta) (hb : PE X b tb) (hc : PE X c tc) (hd : PE X d td)
    (hm : lastMarks [op, op', op2] [b, c, d] = false := by with_unfolding_all rfl) : PE X (.Compare a [op, op', op2] [b, c, d] pos) (tChain3 r r' r2' ta tb tc td) := by
  refine ⟨fun ps sa σ Ha W Ia hw => ?_⟩
  refine Compare_chain (thn (ha.run ps sa σ Ha _ Ia hw) fun ua sb ⟨xa, Hb, Ib, ra, wa⟩ => chain_link (thn (hb.run ps sb σ Hb _ Ib wa) fun ub sc ⟨xb, Hc, Ic, rb, wb⟩ =>
    thn (ho ps sc σ Hc xa xb ua ub _ Ic ra rb wb) fun _ sd ⟨_, Hd, Id, rz, t1, et, wc⟩ => ?_)) hm
  subst et
  cases rz
  refine wpAny_truthy_bool ?_
  cases t1 with
  | false => exact ite_ff ⟨.bl false, Hd, Id, rfl, wc⟩
  | true =>
    refine ite_tt (chain_link (thn (hc.run ps sd σ Hd _ Id wc) fun uc se ⟨xc, He, Ie, rc, wd⟩ => thn (ho' ps se σ He xb xc ub uc _ Ie rb rc wd) fun _ sf ⟨_, Hf, If, rf, t2, eu, we⟩ => ?_))
    subst eu
    cases rf
    refine wpAny_truthy_bool ?_
    cases t2 with
    | false => exact ite_ff ⟨.bl false, Hf, If, rfl, we⟩
    | true => exact ite_tt (chain_last (thn (hd.run ps sf σ Hf _ If we) fun ud sg ⟨xd, Hg, Ig, rd, wg⟩ => ho2 ps sg σ Hg xc xd uc ud W Ig rc rd wg))
end
theorem r_chain3 {r r' r'' : R2} {ta tb tc td : TE} {σ : L2.St} {H : Hp} {Q : VK} (h : ta σ H fun x H1 => tb σ H1 fun y H2 => r x y H2 fun z H3 => ∃ k, z = .bl k ∧
  (if k = true then tc σ H3 fun w' H4 => r' y w' H4 fun z2 H5 => ∃ k2, z2 = .bl k2 ∧ (if k2 = true then td σ H5 fun w2 H6 => r'' w' w2 H6 Q else Q (.bl false) H5) else Q (.bl false) H3)) : tChain3 r r' r'' ta tb tc td σ H Q := h
/-! ### definite forms -/
/-- positive forms: 4 a c - b b = E -/
structure PF (E a b c : Int) : Prop where
  d : 4 * (a * c) - b * b = E
  e0 : 0 < E
  e1 : E ≤ 10000
  a0 : 0 < a
def RedD (a b c : Int) : Prop := -a < b ∧ b ≤ a ∧ a ≤ c ∧ (0 ≤ b ∨ a ≠ c)
instance {a b c : Int} : Decidable (RedD a b c) := by unfold RedD; infer_instance
theorem sqn (x : Int) : 0 ≤ x * x := by
  rcases Int.le_total 0 x with h | h
  · exact Int.mul_nonneg h h
  · exact Int.mul_nonneg_of_nonpos_of_nonpos h h
theorem sq_le {x y : Int} (h1 : -y ≤ x) (h2 : x ≤ y) : x * x ≤ y * y := by
  have : 0 ≤ (y - x) * (y + x) := Int.mul_nonneg (by omega) (by omega)
  have e : (y - x) * (y + x) = y * y - x * x := by grind
  omega
section
variable {E a b c : Int}
theorem PF.c0 (F : PF E a b c) : 0 < c := by
  have d := F.d
  have e := F.e0
  have a0 := F.a0
  have q := sqn b
  by_cases z : 0 < c
  · exact z
  · have := Int.mul_nonpos_of_nonneg_of_nonpos (show 0 ≤ a by omega) (show c ≤ 0 by omega)
    omega
theorem PF.tr (F : PF E a b c) (n : Int) : PF E a (b + 2 * a * n) (a * n * n + b * n + c) := by
  refine ⟨?_, F.e0, F.e1, F.a0⟩
  rw [← F.d]
  grind
theorem PF.sw (F : PF E a b c) : PF E c (-b) a := by
  refine ⟨?_, F.e0, F.e1, F.c0⟩
  rw [← F.d]
  grind
theorem PF.c_le (F : PF E a b c) (h1 : -a < b) (h2 : b ≤ a) : c ≤ a + E := by
  have d := F.d
  have e := F.e0
  have a0 := F.a0
  have s := sq_le (x := b) (y := a) (by omega) h2
  by_cases z : c ≤ a + E
  · exact z
  · have t := Int.mul_le_mul_of_nonneg_left (show a + E + 1 ≤ c by omega) (show 0 ≤ a by omega)
    have t2 : a * (a + E + 1) = a * a + a * E + a := by grind
    have t3 := Int.mul_le_mul_of_nonneg_right (show 1 ≤ a by omega) (show 0 ≤ E by omega)
    have t4 := sqn a
    omega
theorem PF.half (F : PF E a b c) (h1 : -a < b) (h2 : b ≤ a) (hr : 100 < a) : 2 * c ≤ a := by
  have d := F.d
  have e := F.e1
  have a0 := F.a0
  have s := sq_le (x := b) (y := a) (by omega) h2
  by_cases z : 2 * c ≤ a
  · exact z
  · have t := Int.mul_le_mul_of_nonneg_left (show a + 1 ≤ 2 * c by omega) (show 0 ≤ a by omega)
    have t2 : a * (a + 1) = a * a + a := by grind
    have t3 : a * (2 * c) = 2 * (a * c) := by grind
    have t4 := Int.mul_le_mul (show 101 ≤ a by omega) (show 101 ≤ a by omega) (by decide) (by omega)
    omega
/-- a form takes no lesser value than a reduced a -/
theorem low_val {x y : Int} (h : x ≠ 0 ∨ y ≠ 0) : 1 ≤ x * x - ((x.natAbs : Int) * (y.natAbs : Int)) + y * y := by
  have e1 : x * x = (x.natAbs : Int) * (x.natAbs : Int) := by
    rw [← Int.natCast_mul, ← Int.natAbs_mul]
    have := sqn x
    omega
  have e2 : y * y = (y.natAbs : Int) * (y.natAbs : Int) := by
    rw [← Int.natCast_mul, ← Int.natAbs_mul]
    have := sqn y
    omega
  rw [e1, e2]
  have h' : 0 < (x.natAbs : Int) ∨ 0 < (y.natAbs : Int) := by omega
  have p := Int.natCast_nonneg x.natAbs
  have q := Int.natCast_nonneg y.natAbs
  generalize (x.natAbs : Int) = u at *
  generalize (y.natAbs : Int) = v at *
  have t : 4 * (u * u - u * v + v * v) = (2 * u - v) * (2 * u - v) + 3 * (v * v) := by grind
  have s1 := sqn (2 * u - v)
  have s2 := sqn v
  by_cases z : v = 0
  · subst z
    have := Int.mul_le_mul (show 1 ≤ u by omega) (show 1 ≤ u by omega) (by decide) (by omega)
    omega
  · have := Int.mul_le_mul (show 1 ≤ v by omega) (show 1 ≤ v by omega) (by decide) (by omega)
    omega
theorem val_ge {x y : Int} (a0 : 0 < a) (h1 : -a < b) (h2 : b ≤ a) (h3 : a ≤ c) : a * (x * x - ((x.natAbs : Int) * (y.natAbs : Int)) + y * y) + (c - a) * (y * y) ≤ fA a b c x y := by
  have e : fA a b c x y = a * (x * x) + b * (x * y) + c * (y * y) := by
    unfold fA
    grind
  have k : ((x.natAbs : Int) * (y.natAbs : Int)) = ((x * y).natAbs : Int) := by
    rw [Int.natAbs_mul, Int.natCast_mul]
  rw [e, k]
  generalize x * y = w
  generalize x * x = u
  generalize y * y = v
  have t : -(a * (w.natAbs : Int)) ≤ b * w := by
    rcases Int.le_total 0 w with h | h
    · have := Int.mul_le_mul_of_nonneg_right (show -a ≤ b by omega) h
      have e2 : -a * w = -(a * w) := by grind
      rw [show (w.natAbs : Int) = w by omega]
      omega
    · have := Int.mul_le_mul_of_nonpos_right h2 h
      have e2 : a * -w = -(a * w) := by grind
      rw [show (w.natAbs : Int) = -w by omega, e2]
      omega
  have e3 : a * (u - (w.natAbs : Int) + v) + (c - a) * v = a * u - a * (w.natAbs : Int) + c * v := by grind
  omega
theorem uniq {a b c a' b' c' p q r s : Int} (F : PF E a b c) (R1 : RedD a b c) (G : PF E a' b' c') (R2 : RedD a' b' c') (hd : p * s - q * r = 1) (ea : a' = fA a b c p r) (eb : b' = fB a b c p q r s) (ec : c' = fA a b c q s) : a = a' ∧ b = b' ∧ c = c' := by
  have a0 := F.a0
  have a0' := G.a0
  obtain ⟨u1, u2, u3, u4⟩ := R1
  obtain ⟨w1, w2, w3, w4⟩ := R2
  -- the other way
  have ia : a = fA a' b' c' s (-r) := by
    rw [ea, eb, ec]
    unfold fA fB
    have : a = a * ((p * s - q * r) * (p * s - q * r)) := by rw [hd]; omega
    grind
  have pr : p ≠ 0 ∨ r ≠ 0 := by
    by_cases z : p = 0
    · right
      rintro rfl
      subst z
      omega
    · exact .inl z
  have sr : s ≠ 0 ∨ -r ≠ 0 := by
    by_cases z : s = 0
    · right
      intro h
      have : r = 0 := by omega
      subst this z
      omega
    · exact .inl z
  have v1 := val_ge (x := p) (y := r) a0 u1 u2 u3
  have v2 := val_ge (x := s) (y := -r) a0' w1 w2 w3
  have l1 := low_val pr
  have l2 := low_val sr
  rw [← ea] at v1
  rw [← ia] at v2
  have n1 : 0 ≤ (c - a) * (r * r) := Int.mul_nonneg (by omega) (sqn r)
  have n2 : 0 ≤ (c' - a') * (-r * -r) := Int.mul_nonneg (by omega) (sqn _)
  have m1 := Int.mul_le_mul_of_nonneg_left l1 (show 0 ≤ a by omega)
  have m2 := Int.mul_le_mul_of_nonneg_left l2 (show 0 ≤ a' by omega)
  have haa : a = a' := by omega
  subst haa
  have dd : 4 * (a * c) - b * b = 4 * (a * c') - b' * b' := F.d.trans G.d.symm
  by_cases hr : r = 0
  · subst hr
    have ps : p * s = 1 := by omega
    have p2 : p * p = 1 := by
      have h : p.natAbs * s.natAbs = 1 := by
        rw [← Int.natAbs_mul, ps]
        rfl
      have h2 : p.natAbs = 1 := Nat.dvd_one.mp ⟨s.natAbs, h.symm⟩
      rcases Int.natAbs_eq p with h3 | h3 <;> rw [h3, h2] <;> rfl
    have e1 : b' = b + 2 * a * (p * q) := by
      rw [eb]
      unfold fB
      have : b * (p * s + q * 0) = b := by rw [ps]; omega
      grind
    have e2 : b = b' := by
      generalize p * q = t at e1
      have : t = 0 := by
        rcases Int.lt_trichotomy t 0 with h | h | h
        · have := Int.mul_le_mul_of_nonneg_left (show t ≤ -1 by omega) (show 0 ≤ 2 * a by omega)
          omega
        · exact h
        · have := Int.mul_le_mul_of_nonneg_left (show 1 ≤ t by omega) (show 0 ≤ 2 * a by omega)
          omega
      subst this
      omega
    subst e2
    have : a * c = a * c' := by omega
    exact ⟨rfl, rfl, Int.eq_of_mul_eq_mul_left (by omega) this⟩
  · have r1 : 1 ≤ r * r := by
      have := sqn r
      have : r * r ≠ 0 := fun h => hr ((Int.mul_eq_zero.mp h).elim id id)
      omega
    have q1 : c = a := by
      have t := Int.mul_le_mul_of_nonneg_left r1 (show 0 ≤ c - a by omega)
      omega
    have q2 : c' = a := by
      have e : -r * -r = r * r := by grind
      rw [e] at n2 v2 m2
      have t := Int.mul_le_mul_of_nonneg_left r1 (show 0 ≤ c' - a by omega)
      omega
    subst q1
    have b0 : 0 ≤ b := by
      rcases u4 with h | h
      · exact h
      · exact absurd rfl h
    have b0' : 0 ≤ b' := by
      rcases w4 with h | h
      · exact h
      · exact absurd q2.symm h
    rw [q2] at dd
    have bb : b * b = b' * b' := by omega
    have : b = b' := by
      rcases Int.lt_trichotomy b b' with h | h | h
      · have := Int.mul_le_mul (show b + 1 ≤ b' by omega) (show b + 1 ≤ b' by omega) (by omega) (by omega)
        have e : (b + 1) * (b + 1) = b * b + 2 * b + 1 := by grind
        omega
      · exact h
      · have := Int.mul_le_mul (show b' + 1 ≤ b by omega) (show b' + 1 ≤ b by omega) (by omega) (by omega)
        have e : (b' + 1) * (b' + 1) = b' * b' + 2 * b' + 1 := by grind
        omega
    exact ⟨rfl, this, q2.symm⟩
end
/-- how far it is -/
def Pt9 (c : Int) (k : Nat) : Prop := (c ≤ 100 ∧ c ≤ (k : Int)) ∨ ∃ t, k = 101 + t ∧ c.toNat < 2 ^ t
theorem pt_half {c c' : Int} {k : Nat} (h : Pt9 c k) (hc : 100 < c) (c0 : 0 < c') (h4 : 2 * c' ≤ c) : ∃ k', k' < k ∧ Pt9 c' k' := by
  rcases h with ⟨h, _⟩ | ⟨t, rfl, ht⟩
  · omega
  · by_cases z : c' ≤ 100
    · exact ⟨c'.toNat, by omega, .inl ⟨z, by omega⟩⟩
    · cases t with
      | zero => exact absurd ht (by rw [Nat.pow_zero]; omega)
      | succ t => exact ⟨101 + t, by omega, .inr ⟨t, rfl, by rw [Nat.pow_succ] at ht; omega⟩⟩
theorem pt_less {c c' : Int} {k : Nat} (h : Pt9 c k) (hc : c ≤ 100) (c0 : 0 < c') (h4 : c' < c) : ∃ k', k' < k ∧ Pt9 c' k' := by
  refine ⟨c'.toNat, ?_, .inl ⟨by omega, by omega⟩⟩
  rcases h with ⟨_, h⟩ | ⟨t, rfl, ht⟩
  · omega
  · omega

/-! ### split forms -/
/-- a direction: (x, y) without its measure, the sign set -/
def Dir (x y x' y' : Int) : Prop := (∃ g, g ≠ 0 ∧ x = g * x' ∧ y = g * y') ∧ gI x' y' = 1 ∧ (0 < x' ∨ (x' = 0 ∧ y' = 1))
/-- (x, y) is where one of the two lines of the form lies, with the middle number k behind it -/
def Ln (a b c k x y : Int) : Prop := 2 * a * x + b * y = -(k * y) ∧ b * x + 2 * c * y = k * x
theorem Ln.zero {a b c k x y : Int} (h : Ln a b c k x y) : fA a b c x y = 0 := by
  obtain ⟨h1, h2⟩ := h
  have e : 2 * fA a b c x y = x * (2 * a * x + b * y) + y * (b * x + 2 * c * y) := by
    unfold fA
    grind
  rw [h1, h2] at e
  have : x * -(k * y) + y * (k * x) = 0 := by grind
  omega
theorem Ln.mid {a b c k x y u v : Int} (h : Ln a b c k x y) (hd : u * x + v * y = 1) : fB a b c x (-v) y u = k := by
  obtain ⟨h1, h2⟩ := h
  have e : fB a b c x (-v) y u = -v * (2 * a * x + b * y) + u * (b * x + 2 * c * y) := by
    unfold fB
    grind
  rw [e, h1, h2]
  have : -v * -(k * y) + u * (k * x) = k * (u * x + v * y) := by grind
  rw [this, hd, Int.mul_one]
theorem Ln.of {a b c k g x y : Int} (hg : g ≠ 0) (h : Ln a b c k (g * x) (g * y)) : Ln a b c k x y := by
  obtain ⟨h1, h2⟩ := h
  constructor
  · refine Int.eq_of_mul_eq_mul_left hg ?_
    have e1 : g * (2 * a * x + b * y) = 2 * a * (g * x) + b * (g * y) := by grind
    have e2 : g * -(k * y) = -(k * (g * y)) := by grind
    rw [e1, e2]
    exact h1
  · refine Int.eq_of_mul_eq_mul_left hg ?_
    have e1 : g * (b * x + 2 * c * y) = b * (g * x) + 2 * c * (g * y) := by grind
    have e2 : g * (k * x) = k * (g * x) := by grind
    rw [e1, e2]
    exact h2
/-- the canonical split form is one -/
theorem split_one {k c c' p q r s : Int} (k0 : 0 < k) (hd : p * s - q * r = 1) (h1 : 0 ≤ c) (h2 : c < k) (h3 : 0 ≤ c') (h4 : c' < k) (ea : 0 = fA 0 k c p r) (eb : k = fB 0 k c p q r s) (ec : c' = fA 0 k c q s) : c = c' := by
  unfold fA at ea ec
  unfold fB at eb
  have e1 : r * (k * p + c * r) = 0 := by
    have : 0 * p * p + k * p * r + c * r * r = r * (k * p + c * r) := by grind
    omega
  rcases Int.mul_eq_zero.mp e1 with h | h
  · subst h
    have ps : p * s = 1 := by omega
    have hs : s.natAbs = 1 := by
      have h : p.natAbs * s.natAbs = 1 := by
        rw [← Int.natAbs_mul, ps]
        rfl
      exact Nat.dvd_one.mp ⟨p.natAbs, by rw [Nat.mul_comm]; exact h.symm⟩
    have s2 : s * s = 1 := by
      rcases Int.natAbs_eq s with h3 | h3 <;> rw [h3, hs] <;> rfl
    have e2 : c' = k * (q * s) + c := by
      have : 0 * q * q + k * q * s + c * s * s = k * (q * s) + c * (s * s) := by grind
      rw [s2] at this
      omega
    generalize q * s = t at e2
    have : t = 0 := by
      rcases Int.lt_trichotomy t 0 with h | h | h
      · have := Int.mul_le_mul_of_nonneg_left (show t ≤ -1 by omega) (show 0 ≤ k by omega)
        omega
      · exact h
      · have := Int.mul_le_mul_of_nonneg_left (show 1 ≤ t by omega) (show 0 ≤ k by omega)
        omega
    subst this
    omega
  · exfalso
    have e2 : 2 * 0 * p * q + k * (p * s + q * r) + 2 * c * r * s = k * (q * r - p * s) + 2 * s * (k * p + c * r) := by grind
    rw [h, show q * r - p * s = -1 by omega] at e2
    omega
theorem gL_two (x y : Int) : gL [x, y] = ((Nat.gcd x.natAbs y.natAbs : Nat) : Int) := by
  unfold gL
  simp [gI]
theorem dir_of {x y G g : Int} (h : x ≠ 0 ∨ y ≠ 0) (hG : G = ((Nat.gcd x.natAbs y.natAbs : Nat) : Int)) (hg : g = if x < 0 ∨ (x = 0 ∧ y < 0) then -G else G) : g ≠ 0 ∧ Dir x y (x.fdiv g) (y.fdiv g) ∧ (x.fdiv g).natAbs ≤ x.natAbs ∧ (y.fdiv g).natAbs ≤ y.natAbs := by
  have hp : 0 < Nat.gcd x.natAbs y.natAbs := by
    rcases h with h | h
    · exact Nat.gcd_pos_of_pos_left _ (by omega)
    · exact Nat.gcd_pos_of_pos_right _ (by omega)
  have g0 : g ≠ 0 := by
    rw [hg]
    split <;> omega
  have ga : g.natAbs = Nat.gcd x.natAbs y.natAbs := by
    rw [hg, hG]
    split <;> omega
  have dx : g ∣ x := Int.natAbs_dvd_natAbs.mp (by rw [ga]; exact Nat.gcd_dvd_left _ _)
  have dy : g ∣ y := Int.natAbs_dvd_natAbs.mp (by rw [ga]; exact Nat.gcd_dvd_right _ _)
  obtain ⟨x', hx⟩ := dx
  obtain ⟨y', hy⟩ := dy
  have ex : x.fdiv g = x' := by rw [hx, Int.mul_fdiv_cancel_left _ g0]
  have ey : y.fdiv g = y' := by rw [hy, Int.mul_fdiv_cancel_left _ g0]
  rw [ex, ey]
  have co : Nat.gcd x'.natAbs y'.natAbs = 1 := by
    have e : Nat.gcd x.natAbs y.natAbs = Nat.gcd x.natAbs y.natAbs * Nat.gcd x'.natAbs y'.natAbs := by
      conv => lhs; rw [hx, hy, Int.natAbs_mul, Int.natAbs_mul, Nat.gcd_mul_left, ga]
    exact (Nat.eq_of_mul_eq_mul_left hp (by rw [Nat.mul_one]; exact e)).symm
  have l1 : x'.natAbs ≤ x.natAbs := by
    rw [hx, Int.natAbs_mul]
    exact Nat.le_mul_of_pos_left _ (by omega)
  have l2 : y'.natAbs ≤ y.natAbs := by
    rw [hy, Int.natAbs_mul]
    exact Nat.le_mul_of_pos_left _ (by omega)
  refine ⟨g0, ⟨⟨g, g0, hx, hy⟩, by unfold gI; rw [co]; rfl, ?_⟩, l1, l2⟩
  have G0 : 0 < G := by omega
  by_cases z : x < 0 ∨ (x = 0 ∧ y < 0)
  · rw [if_pos z] at hg
    rcases z with z | ⟨z1, z2⟩
    · left
      rcases Int.lt_trichotomy x' 0 with k | k | k
      · have := Int.mul_pos_of_neg_of_neg (show g < 0 by omega) k
        omega
      · subst k
        omega
      · exact k
    · right
      have x0 : x' = 0 := by
        rw [z1] at hx
        exact (Int.mul_eq_zero.mp hx.symm).resolve_left g0
      subst x0
      refine ⟨rfl, ?_⟩
      have y1 : y'.natAbs = 1 := by
        have := co
        simp at this
        exact this
      rcases Int.lt_trichotomy y' 0 with k | k | k
      · have := Int.mul_pos_of_neg_of_neg (show g < 0 by omega) k
        omega
      · subst k
        omega
      · omega
  · rw [if_neg z] at hg
    by_cases w : x = 0
    · right
      have x0 : x' = 0 := by
        rw [w] at hx
        exact (Int.mul_eq_zero.mp hx.symm).resolve_left g0
      subst x0
      refine ⟨rfl, ?_⟩
      have y1 : y'.natAbs = 1 := by
        have := co
        simp at this
        exact this
      rcases Int.lt_trichotomy y' 0 with k | k | k
      · have := Int.mul_neg_of_pos_of_neg (show 0 < g by omega) k
        omega
      · subst k
        omega
      · omega
    · left
      rcases Int.lt_trichotomy x' 0 with k | k | k
      · have := Int.mul_neg_of_pos_of_neg (show 0 < g by omega) k
        omega
      · subst k
        omega
      · exact k
theorem ln0 (b c : Int) : Ln 0 b c (-b) c (-b) := by
  constructor
  · grind
  · grind
theorem ln1 {a b c k : Int} (hd : b * b - 4 * a * c = k * k) : Ln a b c (-k) (k - b) (2 * a) ∧ Ln a b c (- -k) (-k - b) (2 * a) := by
  have e : b * (k - b) + 2 * c * (2 * a) = k * b - (b * b - 4 * a * c) := by grind
  have e2 : b * (-k - b) + 2 * c * (2 * a) = -(k * b) - (b * b - 4 * a * c) := by grind
  refine ⟨⟨?_, ?_⟩, ⟨?_, ?_⟩⟩
  · grind
  · rw [e, hd]
    grind
  · grind
  · rw [e2, hd]
    grind
/-- a split form of the root k -/
structure SF (k a b c : Int) : Prop where
  d : dsc a b c = k * k
  k0 : 0 < k
theorem SF.root {k a b c : Int} (F : SF k a b c) : rootI (b * b - 4 * a * c) = k := by
  have d : b * b - 4 * a * c = k * k := F.d
  have k0 := F.k0
  have e : k * k < (k + 1) * (k + 1) := by
    have : (k + 1) * (k + 1) = k * k + 2 * k + 1 := by grind
    omega
  rw [d]
  exact (rootI_uniq (Int.mul_nonneg (by omega) (by omega)) (by omega) (Int.le_refl _) e).symm
/-- a line: its point, the sign of the middle number behind it -/
structure Pt2 (a b c k x y : Int) : Prop where
  g : gI x y = 1
  s : 0 < x ∨ (x = 0 ∧ y = 1)
  l : Ln a b c k x y
  b1 : x.natAbs ≤ 35184372088832
  b2 : y.natAbs ≤ 35184372088832
theorem iteVV {i j : Nat} {σ : L2.St} {H : Hp} {Q : VK} {c : Prop} [Decidable c] {v : V} (h1 : c → σ[i]? = some (some v)) (h2 : ¬ c → σ[j]? = some (some v)) (q : Q v H) : if decide c = true then tVar i σ H Q else tVar j σ H Q := by
  by_cases h : c
  · rw [if_pos (decide_eq_true h)]
    exact ⟨v, h1 h, q⟩
  · rw [if_neg (fun z => h (of_decide_eq_true z))]
    exact ⟨v, h2 h, q⟩
/-- what canonical_split gives -/
structure CS (k a b c c' p q r s : Int) : Prop where
  c0 : 0 ≤ c'
  c1 : c' < k
  det : p * s - q * r = 1
  ea : 0 = fA a b c p r
  eb : k = fB a b c p q r s
  ec : c' = fA a b c q s
theorem upd_seqT {K : PySem.W.Frag} {H : Hp} {D a : Addr} {ys zs xs : List V} (hD : H D = some (.lst ys)) (h : SqT K H a xs) : SqT K (upd H D (.lst zs)) a xs := by
  rcases h with (h | ⟨o, h⟩) | h
  · refine .inl (.inl ((upd_ne ?_).trans h))
    rintro rfl
    rw [hD] at h
    cases h
  · refine .inl (.inr ⟨o, (upd_ne ?_).trans h⟩)
    rintro rfl
    rw [hD] at h
    cases h
  · exact .inr h
theorem cs_of {k a b c x y u v : Int} (k0 : 0 < k) (d : u * x + v * y = 1) (l : Ln a b c k x y) : CS k a b c (fA a b c (-v) u % k) (x * 1 + -v * 0) (x * -((fA a b c (-v) u).fdiv k) + -v * 1) (y * 1 + u * 0) (y * -((fA a b c (-v) u).fdiv k) + u * 1) := by
  have z := l.zero
  have m := l.mid d
  have e := Int.mul_ediv_add_emod (fA a b c (-v) u) k
  rw [← Int.fdiv_eq_ediv_of_nonneg _ (by omega)] at e
  generalize hn : (fA a b c (-v) u).fdiv k = n at *
  refine ⟨Int.emod_nonneg _ (by omega), Int.emod_lt_of_pos _ k0, ?_, ?_, ?_, ?_⟩
  · grind
  · rw [show x * 1 + -v * 0 = x by omega, show y * 1 + u * 0 = y by omega, z]
  · have e3 : fB a b c (x * 1 + -v * 0) (x * -n + -v * 1) (y * 1 + u * 0) (y * -n + u * 1) = 2 * -n * fA a b c x y + fB a b c x (-v) y u := by
      unfold fA fB
      grind
    rw [e3, z, m]
    omega
  · have e3 : fA a b c (x * -n + -v * 1) (y * -n + u * 1) = n * n * fA a b c x y + -n * fB a b c x (-v) y u + fA a b c (-v) u := by
      unfold fA fB
      grind
    rw [e3, z, m]
    have : -n * k = -(k * n) := by grind
    omega

/-! ### flat forms -/
structure FL (a b c g p q : Int) : Prop where
  ea : a = g * (p * p)
  eb : b = 2 * (g * (p * q))
  ec : c = g * (q * q)
  co : gI p q = 1
  sg : 0 < p ∨ (p = 0 ∧ q = 1)
  g0 : g ≠ 0
theorem gL_three (x y z : Int) : gL [x, y, z] = ((Nat.gcd (Nat.gcd x.natAbs y.natAbs) z.natAbs : Nat) : Int) := by
  unfold gL
  simp [gI]
theorem FL.content {a b c g p q : Int} (h : FL a b c g p q) : gL [a, b, c] = (g.natAbs : Int) := by
  obtain ⟨ea, eb, ec, co, sg, g0⟩ := h
  rw [gL_three]
  have e1 : a.natAbs = g.natAbs * (p.natAbs * p.natAbs) := by rw [ea, Int.natAbs_mul, Int.natAbs_mul]
  have e2 : b.natAbs = g.natAbs * (2 * (p.natAbs * q.natAbs)) := by
    rw [eb, Int.natAbs_mul, Int.natAbs_mul, Int.natAbs_mul]
    show 2 * (g.natAbs * (p.natAbs * q.natAbs)) = _
    ac_rfl
  have e3 : c.natAbs = g.natAbs * (q.natAbs * q.natAbs) := by rw [ec, Int.natAbs_mul, Int.natAbs_mul]
  have co2 : Nat.Coprime p.natAbs q.natAbs := by
    have : ((Nat.gcd p.natAbs q.natAbs : Nat) : Int) = 1 := co
    show Nat.gcd p.natAbs q.natAbs = 1
    omega
  have c2 : Nat.Coprime (p.natAbs * p.natAbs) (q.natAbs * q.natAbs) := Nat.Coprime.mul_left (Nat.Coprime.mul_right co2 co2) (Nat.Coprime.mul_right co2 co2)
  have c3 : Nat.gcd (Nat.gcd (p.natAbs * p.natAbs) (2 * (p.natAbs * q.natAbs))) (q.natAbs * q.natAbs) = 1 := by
    refine Nat.dvd_one.mp ?_
    rw [← c2]
    exact Nat.dvd_gcd (Nat.dvd_trans (Nat.gcd_dvd_left _ _) (Nat.gcd_dvd_left _ _)) (Nat.gcd_dvd_right _ _)
  rw [e1, e2, e3, Nat.gcd_mul_left, Nat.gcd_mul_left, c3, Nat.mul_one]
theorem FL.of {a b c g P Q : Int} (g0 : g ≠ 0) (h : P ≠ 0 ∨ Q ≠ 0) (ea : a = g * (P * P)) (eb : b = 2 * (g * (P * Q))) (ec : c = g * (Q * Q)) : ∃ g' p q, FL a b c g' p q := by
  obtain ⟨h0, ⟨⟨k, k0, e1, e2⟩, co, sg⟩, _, _⟩ := dir_of (x := P) (y := Q) (g := if P < 0 ∨ (P = 0 ∧ Q < 0) then -((Nat.gcd P.natAbs Q.natAbs : Nat) : Int) else ((Nat.gcd P.natAbs Q.natAbs : Nat) : Int)) h rfl rfl
  generalize P.fdiv _ = p at *
  generalize Q.fdiv _ = q at *
  refine ⟨g * (k * k), p, q, ?_, ?_, ?_, co, sg, ?_⟩
  · rw [ea, e1]
    grind
  · rw [eb, e1, e2]
    grind
  · rw [ec, e2]
    grind
  · intro z
    rcases Int.mul_eq_zero.mp z with w | w
    · exact g0 w
    · exact k0 ((Int.mul_eq_zero.mp w).elim id id)
def FlatR (a b c g p q : Int) : Prop := (a = 0 ∧ b = 0 ∧ c = 0 ∧ g = 0 ∧ p = 1 ∧ q = 0) ∨ FL a b c g p q
theorem em_step {a b i B : Nat} (hb : b ≠ 0) (h : (i = 0 ∧ a * b * 2 < B) ∨ (b ≤ a ∧ a * b * 2 ^ i < B)) : a % b ≤ b ∧ b * (a % b) * 2 ^ (i + 1) < B := by
  have h1 : a % b < b := Nat.mod_lt _ (by omega)
  refine ⟨by omega, ?_⟩
  rcases h with ⟨rfl, h⟩ | ⟨hl, h⟩
  · have h2 : b * (a % b) ≤ b * a := Nat.mul_le_mul_left _ (Nat.mod_le _ _)
    rw [Nat.mul_comm b a] at h2
    have e : (2 : Nat) ^ (0 + 1) = 2 := rfl
    rw [e]
    omega
  · have h2 : 2 * (a % b) ≤ a := by
      have h3 := Nat.div_add_mod a b
      have h4 : 1 ≤ a / b := Nat.div_pos hl (by omega)
      have h5 : b * 1 ≤ b * (a / b) := Nat.mul_le_mul_left _ h4
      omega
    have h3 : b * (2 * (a % b)) ≤ b * a := Nat.mul_le_mul_left _ h2
    have e : b * (a % b) * 2 ^ (i + 1) = b * (2 * (a % b)) * 2 ^ i := by
      rw [Nat.pow_succ]
      ac_rfl
    rw [e]
    refine Nat.lt_of_le_of_lt (Nat.mul_le_mul_right _ h3) ?_
    rw [Nat.mul_comm b a]
    exact h

theorem em_end5 {a b G B : Nat} (hG : Nat.gcd a b = G) (h : (5000 = 0 ∧ a * b * 2 < B) ∨ (b ≤ a ∧ a * b * 2 ^ 5000 < B)) (hB : B ≤ 2 ^ 5000) : a = G := by
  rcases h with ⟨h, _⟩ | ⟨hl, h⟩
  · cases h
  · have h1 : a * b = 0 := by
      by_cases z : a * b = 0
      · exact z
      · have h2 : 1 * 2 ^ 5000 ≤ a * b * 2 ^ 5000 := Nat.mul_le_mul_right _ (by omega)
        rw [Nat.one_mul] at h2
        omega
    have hb : b = 0 := by
      rcases Nat.mul_eq_zero.mp h1 with z | z
      · omega
      · exact z
    rw [hb, Nat.gcd_zero_right] at hG
    exact hG

/-! ### min of a list of data -/
def rMinD (K : PySem.W.Frag) (α : Type) [DecidableEq α] [PySem.W.DatumOrd α] : List V → Hp → VK → Prop := fun vs H Q => ∃ (a : Addr) (ys : List V) (x : α) (xs : List α), vs = [V.ref a] ∧ SqL K H a ys ∧ DpAll K H ys ((x :: xs).map PySem.W.Datum.toD) ∧
  ∀ (i : Nat) (y : V), ys[i]? = some y → (x :: xs)[i]? = some (PySem.W.minOf x xs) → Q y H
theorem cr_minD {X : Cx} {α : Type} [DecidableEq α] [PySem.W.DatumOrd α] (hc : X.calm = true) (hu : X.A.units + 1 + PySem.W.Datum.depth α < cLine) : CallR X (.builtin "min") (rMinD X.K α) := by
  intro pins s σ H vs us Q I r h
  obtain ⟨a, ys, x, xs, rfl, hs, hd, q⟩ := h
  obtain ⟨its, rv, hl, _⟩ := I.list hs
  rw [Vals.ref1 r]
  obtain ⟨as, ra⟩ := Dp.readsAll I _ _ its hd rv
  refine PySem.W.min_list_data (vs := its.toArray) (I.ok.hd hc) hl.isList ra (PySem.W.alikeAll_datum (x :: xs)) (PySem.W.room_all (PySem.W.depthAll_map (x :: xs)) hu) fun i v h' tk bs hi rr hk => ?_
  have hi2 : its[i]? = some v := by simpa using hi
  obtain ⟨cs, r1, hlt, _, _⟩ := PySem.W.readsAll_at (vs := its) ra i v hi2
  have hl2 : i < (x :: xs).length := by simpa using hlt
  have e1 : ((x :: xs).map PySem.W.Datum.toD).getD i .none = PySem.W.Datum.toD ((x :: xs)[i]) := by
    rw [List.getD_eq_getElem?_getD, List.getElem?_map, List.getElem?_eq_getElem hl2]
    rfl
  rw [e1] at r1
  have e2 := (PyProof.Rows.reads_det (fun b o e _ => hk b o e) r1 rr).1
  rw [show (PySem.W.minD (PySem.W.Datum.toD x) (xs.map PySem.W.Datum.toD)) = PySem.W.Datum.toD (PySem.W.minOf x xs) from PySem.W.minD_map x xs] at e2
  have e3 : (x :: xs)[i] = PySem.W.minOf x xs := by
    have h1 := PySem.W.Datum.eqv ((x :: xs)[i]) (PySem.W.minOf x xs)
    rw [← e2, PySem.W.Datum.eqv] at h1
    simpa using h1
  have hlen := rv.length
  have hi3 : i < its.length := (List.getElem?_eq_some_iff.mp hi2).1
  have hy : ys[i]? = some (ys[i]'(by omega)) := List.getElem?_eq_getElem (by omega)
  obtain ⟨u, hu1, hu2⟩ := rv.get hy
  rw [hi2] at hu1
  cases hu1
  exact ⟨_, H, I.kept hk, hu2, q i _ hy (by rw [List.getElem?_eq_getElem hl2, e3])⟩
theorem minDQ {X : Cx} (K : PySem.W.Frag) (α : Type) [DecidableEq α] [PySem.W.DatumOrd α] (hc : X.calm = true) (hu : X.A.units + 65 < cLine) (hd : PySem.W.Datum.depth α ≤ 64 := by decide) (h : X.K = K := by rfl) : CallR X (.builtin "min") (rMinD K α) := by
  subst h
  exact cr_minD hc (by omega)
section
variable {α β : Type} [DecidableEq α] [PySem.W.DatumOrd α] [DecidableEq β] [PySem.W.DatumOrd β]
theorem ord_irr (a : α) : PySem.W.DatumOrd.lt a a = false := by
  rw [← PySem.W.DatumOrd.lt_eq]
  exact PySem.W.dataLt_self _
theorem ord_trans {a b c : α} (h1 : PySem.W.DatumOrd.lt a b = true) (h2 : PySem.W.DatumOrd.lt b c = true) : PySem.W.DatumOrd.lt a c = true := by
  rw [← PySem.W.DatumOrd.lt_eq] at *
  exact PyProof.Rows.lex_trans _ _ _ h1 h2
theorem min_fst : ∀ (xs : List (α × β)) (x : α × β), (PySem.W.minOf x xs).1 = PySem.W.minOf x.1 (xs.map (·.1))
  | [], x => rfl
  | y :: ys, x => by
    have h := min_fst ys
    unfold PySem.W.minOf at *
    rw [List.map_cons, List.foldl_cons, List.foldl_cons, h]
    congr 1
    show (if (if y.1 = x.1 then PySem.W.DatumOrd.lt y.2 x.2 else PySem.W.DatumOrd.lt y.1 x.1) = true then y else x).1 = _
    by_cases e : y.1 = x.1
    · rw [if_pos e, e, ite_self]
      split
      · exact e
      · rfl
    · rw [if_neg e]
      split <;> rfl
theorem min_spec : ∀ (xs : List α) (x : α), PySem.W.minOf x xs ∈ x :: xs ∧ ∀ y ∈ x :: xs, PySem.W.DatumOrd.lt y (PySem.W.minOf x xs) = false
  | [], x => ⟨List.mem_cons_self, fun y hy => by
      cases List.mem_singleton.mp hy
      exact ord_irr _⟩
  | z :: zs, x => by
    have e : PySem.W.minOf x (z :: zs) = PySem.W.minOf (if PySem.W.DatumOrd.lt z x = true then z else x) zs := rfl
    by_cases c : PySem.W.DatumOrd.lt z x = true
    · rw [if_pos c] at e
      obtain ⟨h1, h2⟩ := min_spec zs z
      rw [e]
      refine ⟨List.mem_cons_of_mem _ h1, fun y hy => ?_⟩
      rcases List.mem_cons.mp hy with rfl | hy
      · cases k : PySem.W.DatumOrd.lt y (PySem.W.minOf z zs)
        · rfl
        · have := h2 z List.mem_cons_self
          rw [ord_trans c k] at this
          exact this
      · exact h2 y hy
    · rw [if_neg c] at e
      obtain ⟨h1, h2⟩ := min_spec zs x
      rw [e]
      refine ⟨?_, fun y hy => ?_⟩
      · rcases List.mem_cons.mp h1 with h | h
        · rw [h]
          exact List.mem_cons_self
        · exact List.mem_cons_of_mem _ (List.mem_cons_of_mem _ h)
      · rcases List.mem_cons.mp hy with rfl | hy
        · exact h2 _ List.mem_cons_self
        · rcases List.mem_cons.mp hy with rfl | hy
          · cases k : PySem.W.DatumOrd.lt y (PySem.W.minOf x zs)
            · rfl
            · exfalso
              -- y < min, x not above it: min is x or one of zs
              have hx := h2 x List.mem_cons_self
              have c2 : PySem.W.DatumOrd.lt y x = false := by
                cases q : PySem.W.DatumOrd.lt y x
                · rfl
                · exact absurd q c
              rw [← PySem.W.DatumOrd.lt_eq] at k hx c2
              rcases (PyProof.Rows.lex_negTrans (O := PyProof.Rows.itemOrd) _ (PySem.W.keyToks (PySem.W.Datum.toD x)) _ k : _ ∨ _) with t | t
              · exact absurd (show PySem.W.dataLt _ _ = true from t) (by rw [c2]; decide)
              · exact absurd (show PySem.W.dataLt _ _ = true from t) (by rw [hx]; decide)
          · exact h2 y (List.mem_cons_of_mem _ hy)
end
theorem ints_total : ∀ a b : List Int, PySem.W.listLt a b = false → PySem.W.listLt b a = false → a = b
  | [], [], _, _ => rfl
  | [], _ :: _, h, _ => by exact absurd h (by unfold PySem.W.listLt; decide)
  | _ :: _, [], _, h => by exact absurd h (by unfold PySem.W.listLt; decide)
  | x :: xs, y :: ys, h1, h2 => by
    unfold PySem.W.listLt at h1 h2
    by_cases e : x = y
    · subst e
      rw [if_pos rfl] at h1 h2
      rw [ints_total xs ys h1 h2]
    · rw [if_neg e] at h1
      rw [if_neg (fun h => e h.symm)] at h2
      have k1 : ¬ x < y := of_decide_eq_false h1
      have k2 : ¬ y < x := of_decide_eq_false h2
      omega
/-- the least depends on what stands there alone -/
theorem min_alike {x y : PySem.W.Tup Int} {xs ys : List (PySem.W.Tup Int)} (h1 : ∀ z, z ∈ x :: xs → z ∈ y :: ys) (h2 : ∀ z, z ∈ y :: ys → z ∈ x :: xs) : PySem.W.minOf x xs = PySem.W.minOf y ys := by
  obtain ⟨a1, a2⟩ := min_spec xs x
  obtain ⟨b1, b2⟩ := min_spec ys y
  have k1 := a2 _ (h2 _ b1)
  have k2 := b2 _ (h1 _ a1)
  have e := ints_total _ _ k2 k1
  generalize PySem.W.minOf x xs = u at *
  generalize PySem.W.minOf y ys = v at *
  cases u
  cases v
  exact congrArg _ e

/-! ### lists of pairs of int tuples -/
def pD (p : List Int × List Int) : PyData := .tuple [tD p.1, tD p.2]
inductive Pps (K : PySem.W.Frag) (H : Hp) : List V → List (List Int × List Int) → Prop where
  | nil : Pps K H [] []
  | cons {a x y : Addr} {f m : List Int} {vs : List V} {ps : List (List Int × List Int)} : SqT K H a [.ref x, .ref y] → SqT K H x (f.map V.int) → SqT K H y (m.map V.int) → Pps K H vs ps → Pps K H (.ref a :: vs) ((f, m) :: ps)
theorem Pps.kt {K : PySem.W.Frag} {H H' : Hp} (s : KT K H H') : ∀ {vs : List V} {ts : List (List Int × List Int)}, Pps K H vs ts → Pps K H' vs ts
  | _, _, .nil => .nil
  | _, _, .cons h h1 h2 t => .cons (s _ _ h) (s _ _ h1) (s _ _ h2) (t.kt s)
theorem Pps.same {K : PySem.W.Frag} {H H' : Hp} {vs : List V} {ts : List (List Int × List Int)} (h : Pps K H vs ts) (s : Same H H') : Pps K H' vs ts := h.kt (same_kt s)
theorem Pps.len {K : PySem.W.Frag} {H : Hp} : ∀ {vs : List V} {ts : List (List Int × List Int)}, Pps K H vs ts → vs.length = ts.length
  | _, _, .nil => rfl
  | _, _, .cons _ _ _ t => by rw [List.length_cons, List.length_cons, t.len]
theorem Pps.app {K : PySem.W.Frag} {H : Hp} : ∀ {vs ws : List V} {ts us : List (List Int × List Int)}, Pps K H vs ts → Pps K H ws us → Pps K H (vs ++ ws) (ts ++ us)
  | _, _, _, _, .nil, h => h
  | _, _, _, _, .cons a b c t, h => .cons a b c (t.app h)
theorem Pps.snoc {K : PySem.W.Frag} {H : Hp} {vs : List V} {ts : List (List Int × List Int)} {a x y : Addr} {f m : List Int} (h : Pps K H vs ts) (s : SqT K H a [.ref x, .ref y]) (s1 : SqT K H x (f.map V.int)) (s2 : SqT K H y (m.map V.int)) : Pps K H (vs ++ [.ref a]) (ts ++ [(f, m)]) := h.app (.cons s s1 s2 .nil)
theorem Pps.at {K : PySem.W.Frag} {H : Hp} : ∀ {vs : List V} {ts : List (List Int × List Int)} {i : Nat} {x : V}, Pps K H vs ts → vs[i]? = some x → ∃ a u v f m, x = .ref a ∧ ts[i]? = some (f, m) ∧ SqT K H a [.ref u, .ref v] ∧ SqT K H u (f.map V.int) ∧ SqT K H v (m.map V.int)
  | _, _, _, _, .nil, h => by cases h
  | _, _, 0, _, .cons s s1 s2 t, h => by
    cases h
    exact ⟨_, _, _, _, _, rfl, rfl, s, s1, s2⟩
  | _, _, i + 1, _, .cons _ _ _ t, h => t.at (i := i) h
theorem Pps.dp {K : PySem.W.Frag} {H : Hp} : ∀ {vs : List V} {ts : List (List Int × List Int)}, Pps K H vs ts → DpAll K H vs (ts.map pD)
  | _, _, .nil => .nil
  | _, _, .cons h h1 h2 t => .cons (.tup h (.cons (.tup h1 (dp_ints _)) (.cons (.tup h2 (dp_ints _)) .nil))) t.dp
/-- the firsts of the pairs -/
theorem Pps.firsts {K : PySem.W.Frag} {H : Hp} : ∀ {vs : List V} {ts : List (List Int × List Int)}, Pps K H vs ts → ∃ zs : List V, Tps K H zs (ts.map (·.1)) ∧ ∀ (i : Nat) (v : V), vs[i]? = some v → ∃ a x y : Addr, v = V.ref a ∧ SqT K H a [.ref x, .ref y] ∧ zs[i]? = some (V.ref x)
  | _, _, .nil => ⟨[], .nil, fun i v h => by cases h⟩
  | _, _, .cons h h1 h2 t => by
    obtain ⟨zs, z1, z2⟩ := t.firsts
    refine ⟨_ :: zs, .cons h1 z1, fun i v hv => ?_⟩
    cases i with
    | zero =>
      cases hv
      exact ⟨_, _, _, rfl, h, rfl⟩
    | succ i => exact z2 i v hv
theorem lay_pps : ∀ ts : List (List Int × List Int), PyData.canLayAll0 (ts.map pD) = true
  | [] => rfl
  | t :: ts => by
    rw [List.map_cons, PyData.canLayAll0, lay_pps ts]
    unfold pD tD
    rw [PyData.canLay0, PyData.canLayAll0, PyData.canLayAll0, PyData.canLayAll0, PyData.canLay0, PyData.canLay0, lay_ints, lay_ints]
    rfl
theorem depth_pps : ∀ ts : List (List Int × List Int), PyData.depthAll (ts.map pD) ≤ 2
  | [] => by rw [List.map_nil, PyData.depthAll]; decide
  | t :: ts => by
    rw [List.map_cons, PyData.depthAll]
    unfold pD tD
    rw [PyData.depth, PyData.depthAll, PyData.depthAll, PyData.depthAll, PyData.depth, PyData.depth, depth_ints, depth_ints]
    exact Nat.max_le.mpr ⟨by decide, depth_pps ts⟩
theorem shaped_pps (ts : List (List Int × List Int)) : SeqAt.shaped (.list (ts.map pD)) = true := by
  show (PyData.canLay0 (.list (ts.map pD)) && decide (PyData.depth (.list (ts.map pD)) ≤ 64)) = true
  rw [Bool.and_eq_true]
  refine ⟨by rw [PyData.canLay0]; exact lay_pps ts, decide_eq_true ?_⟩
  rw [PyData.depth]
  have := depth_pps ts
  omega
theorem eqvAll_pps : ∀ ts us : List (List Int × List Int), PyData.eqvAll (ts.map pD) (us.map pD) = decide (ts = us)
  | [], [] => by simp [PyData.eqvAll]
  | [], _ :: _ => by simp [PyData.eqvAll]
  | _ :: _, [] => by simp [PyData.eqvAll]
  | t :: ts, u :: us => by
    rw [List.map_cons, List.map_cons, PyData.eqvAll, eqvAll_pps ts us]
    unfold pD tD
    rw [PyData.eqv, PyData.eqvAll, PyData.eqvAll, PyData.eqvAll, R.eqB, R.eqB]
    obtain ⟨t1, t2⟩ := t
    obtain ⟨u1, u2⟩ := u
    by_cases h : t1 = u1 <;> by_cases h2 : t2 = u2 <;> simp [h, h2]
namespace R
theorem eqPps {K : PySem.W.Frag} {H : Hp} {Q : VK} {p q : Addr} {vs ws : List V} {ts us : List (List Int × List Int)} (h1 : SqL K H p vs) (t1 : Pps K H vs ts) (h2 : SqL K H q ws) (t2 : Pps K H ws us) (h : Q (.bl (decide (ts = us))) H) : rEqD K (.ref p) (.ref q) H Q := by
  refine ⟨_, _, .lst h1 t1.dp, .lst h2 t2.dp, shaped_pps _, shaped_pps _, ?_⟩
  rw [PyData.eqv, eqvAll_pps]
  exact h
theorem nePps {K : PySem.W.Frag} {H : Hp} {Q : VK} {p q : Addr} {vs ws : List V} {ts us : List (List Int × List Int)} (h1 : SqL K H p vs) (t1 : Pps K H vs ts) (h2 : SqL K H q ws) (t2 : Pps K H ws us) (h : Q (.bl (!decide (ts = us))) H) : rNeD K (.ref p) (.ref q) H Q := by
  refine ⟨_, _, .lst h1 t1.dp, .lst h2 t2.dp, shaped_pps _, shaped_pps _, ?_⟩
  rw [PyData.eqv, eqvAll_pps]
  exact h
section
variable {K : PySem.W.Frag} {te : TE} {σ : L2.St} {H : Hp} {Q : VK}
/-- a comprehension over a list of any things whose results are known -/
theorem lcV {a : Addr} {ys zs : List V} {g : TG} {vs : List Nat} (hz : zs.length = ys.length) (hl : ys.length ≤ 100000) (hT : SqL K H a ys)
    (hs : ∀ (i : Nat) (y z : V) (H' : Hp) (Q' : VK), ys[i]? = some y → zs[i]? = some z → Same H H' → Q' z H' → g y (wipe σ vs) H' fun σ2 H2 => wipe σ2 vs = wipe σ vs ∧ te σ2 H2 Q')
    (hq : ∀ H' D, H' D = some (.lst zs) → Same H H' → H D = none → Q (.ref D) H') : LcJ (Itl K a) g tYes te vs σ H Q := by
  intro D nD
  refine lc_list (K := K) (a := a) (xs := ys) (fun i H' => H' D = some (.lst (zs.take i)) ∧ Same H H') ⟨upd_same, same_upd nD⟩ (fun i H' _ h => h.2.seq hT) (fun i x H5 hx ⟨h1, h5⟩ => ?_) (fun H5 ⟨h1, h5⟩ => ?_)
  · have hi : i < ys.length := (List.getElem?_eq_some_iff.mp hx).1
    have hzi : zs[i]? = some (zs[i]'(by omega)) := List.getElem?_eq_getElem (by omega)
    refine hs i x _ H5 _ hx hzi h5 ⟨_, h1, ?_, ?_, ?_⟩
    · rw [List.length_take]
      exact Nat.lt_of_le_of_lt (by omega : min i zs.length ≤ 100000) (by decide)
    · rw [upd_same, List.take_add_one, hzi]
      rfl
    · exact same_mut h5 nD
  · rw [← hz, List.take_length] at h1
    exact hq H5 D h1 h5 nD
theorem minTps {a : Addr} {vs : List V} {t : List Int} {ts : List (List Int)} (h1 : SqL K H a vs) (t1 : Tps K H vs (t :: ts)) (h : ∀ (i : Nat) (x : Addr) (u : List Int), (t :: ts)[i]? = some u → SqT K H x (u.map V.int) → PySem.W.Tup.mk u = PySem.W.minOf (PySem.W.Tup.mk t) (ts.map PySem.W.Tup.mk) → Q (.ref x) H) : rMinD K (PySem.W.Tup Int) [.ref a] H Q := by
  have e : ∀ l : List (List Int), l.map tD = (l.map PySem.W.Tup.mk).map PySem.W.Datum.toD := fun l => by
    rw [List.map_map]
    rfl
  have d := t1.dp
  rw [e] at d
  refine ⟨a, vs, PySem.W.Tup.mk t, ts.map PySem.W.Tup.mk, rfl, h1, d, fun i y hy hm => ?_⟩
  obtain ⟨x, u, rfl, hu, hs⟩ := t1.at hy
  refine h i x u hu hs ?_
  rw [show PySem.W.Tup.mk t :: ts.map PySem.W.Tup.mk = (t :: ts).map PySem.W.Tup.mk from rfl, List.getElem?_map, hu] at hm
  exact Option.some.inj hm
def pT (p : List Int × List Int) : PySem.W.Tup Int × PySem.W.Tup Int := (PySem.W.Tup.mk p.1, PySem.W.Tup.mk p.2)
theorem minPps {a : Addr} {vs : List V} {t : List Int × List Int} {ts : List (List Int × List Int)} (h1 : SqL K H a vs) (t1 : Pps K H vs (t :: ts)) (h : ∀ (i : Nat) (x u v : Addr) (f m : List Int), (t :: ts)[i]? = some (f, m) → SqT K H x [.ref u, .ref v] → SqT K H u (f.map V.int) → SqT K H v (m.map V.int) → PySem.W.Tup.mk f = PySem.W.minOf (PySem.W.Tup.mk t.1) ((ts.map (·.1)).map PySem.W.Tup.mk) → Q (.ref x) H) : rMinD K (PySem.W.Tup Int × PySem.W.Tup Int) [.ref a] H Q := by
  have e : ∀ l : List (List Int × List Int), l.map pD = (l.map pT).map PySem.W.Datum.toD := fun l => by
    rw [List.map_map]
    rfl
  have d := t1.dp
  rw [e] at d
  refine ⟨a, vs, pT t, ts.map pT, rfl, h1, d, fun i y hy hm => ?_⟩
  obtain ⟨x, u, v, f, m, rfl, hu, hs, hf, hm2⟩ := t1.at hy
  refine h i x u v f m hu hs hf hm2 ?_
  rw [show pT t :: ts.map pT = (t :: ts).map pT from rfl, List.getElem?_map, hu] at hm
  have e2 := congrArg Prod.fst (Option.some.inj hm)
  rw [min_fst, List.map_map] at e2
  rw [List.map_map]
  exact e2
end
end R

/-! ### sorted of int tuples -/
def leT (t u : List Int) : Prop := PySem.W.listLt u t = false
theorem leT_antisymm {t u : List Int} (h1 : leT t u) (h2 : leT u t) : t = u := ints_total _ _ h2 h1
def rSortedT (K : PySem.W.Frag) : List V → Hp → VK → Prop := fun vs H Q => ∃ (a : Addr) (ys : List V) (ts : List (List Int)), vs = [V.ref a] ∧ SqL K H a ys ∧ Tps K H ys ts ∧ (∀ t ∈ ts, t ≠ []) ∧
  ∀ (zs : List V) (us : List (List Int)) (p : Addr), us.Perm ts → us.Pairwise leT → H p = none → Tps K H zs us → Q (.ref p) (upd H p (.lst zs))
theorem tps_pairs {K : PySem.W.Frag} {H : Hp} : ∀ {ys : List V} {ts : List (List Int)} {its : List Value}, Tps K H ys ts → Vals ys its → ∃ bs : List (Addr × List Int), bs.map (·.2) = ts ∧ bs.map (fun b => Value.ref b.1) = its ∧ ∀ b ∈ bs, SqT K H b.1 (b.2.map V.int)
  | _, _, _, .nil, .nil => ⟨[], rfl, rfl, fun b h => by cases h⟩
  | _, _, _, .cons (a := a) (t := t) s tl, .cons r rl => by
    obtain ⟨bs, h1, h2, h3⟩ := tps_pairs tl rl
    refine ⟨(a, t) :: bs, by rw [List.map_cons, h1], ?_, fun b hb => ?_⟩
    · rw [List.map_cons, h2, show Value.ref (a, t).1 = _ from (show _ = Value.ref a from r).symm]
    · rcases List.mem_cons.mp hb with rfl | hb
      · exact s
      · exact h3 b hb
theorem pairs_tps {K : PySem.W.Frag} {H : Hp} : ∀ {bs : List (Addr × List Int)}, (∀ b ∈ bs, SqT K H b.1 (b.2.map V.int)) → Tps K H (bs.map fun b => V.ref b.1) (bs.map (·.2))
  | [], _ => .nil
  | b :: bs, h => .cons (h b List.mem_cons_self) (pairs_tps fun c hc => h c (List.mem_cons_of_mem _ hc))
theorem pairs_vals : ∀ bs : List (Addr × List Int), Vals (bs.map fun b => V.ref b.1) (bs.map fun b => Value.ref b.1)
  | [] => .nil
  | b :: bs => .cons (show RelV (V.ref b.1) (Value.ref b.1) from rfl) (pairs_vals bs)
theorem each_ref : ∀ bs : List (Addr × List Int), PySem.W.EachIs (fun (v : Value) (b : Addr × List Int) => v = Value.ref b.1) (bs.map fun b => Value.ref b.1) bs
  | [] => .nil
  | b :: bs => .cons rfl (each_ref bs)
theorem ref_each : ∀ {out : List Value} {bs : List (Addr × List Int)}, PySem.W.EachIs (fun (v : Value) (b : Addr × List Int) => v = Value.ref b.1) out bs → out = bs.map fun b => Value.ref b.1
  | _, _, .nil => rfl
  | _, _, .cons h t => by rw [h, ref_each t, List.map_cons]
theorem each_reads {h : Heap} : ∀ {vs : List Value} {bs : List (Addr × List Int)} {as : List Addr}, ReadsAll h vs (bs.map fun b => tD b.2) as → PySem.W.EachIs (fun v b => ∃ as, Reads h v (tD b.2) as) vs bs
  | [], [], _, _ => .nil
  | v :: vs, b :: bs, _, r => by
    rw [List.map_cons] at r
    cases r with
    | cons r1 r2 => exact .cons ⟨_, r1⟩ (each_reads r2)
  | [], b :: bs, _, r => by
    rw [List.map_cons] at r
    cases r
  | v :: vs, [], _, r => by
    rw [List.map_nil] at r
    cases r
theorem toD_tup (t : List Int) : PySem.W.Datum.toD (PySem.W.Tup.mk t) = tD t := rfl
theorem dataLe_tup {β : Type} (f : β → List Int) (p q : β) : PySem.W.dataLe false (fun b => tD (f b)) p q = !PySem.W.listLt (f q) (f p) := by
  rw [PySem.W.dataLe_eq]
  show (!PySem.W.dataLt (tD (f q)) (tD (f p))) = _
  rw [← toD_tup, ← toD_tup, PySem.W.DatumOrd.lt_eq]
  rfl
theorem le_total9 (t u : List Int) : PySem.W.listLt t u = false ∨ PySem.W.listLt u t = false := by
  cases h1 : PySem.W.listLt t u
  · exact .inl rfl
  · cases h2 : PySem.W.listLt u t
    · exact .inr rfl
    · have := ord_trans (a := PySem.W.Tup.mk t) (b := PySem.W.Tup.mk u) (c := PySem.W.Tup.mk t) h1 h2
      rw [ord_irr] at this
      cases this
theorem leT_trans {a b c : List Int} (h1 : leT a b) (h2 : leT b c) : leT a c := by
  unfold leT at *
  cases h : PySem.W.listLt c a
  · rfl
  · exfalso
    -- c < a, not b < a, so c < b
    have h' : PySem.W.DatumOrd.lt (PySem.W.Tup.mk c) (PySem.W.Tup.mk a) = true := h
    have h1' : PySem.W.DatumOrd.lt (PySem.W.Tup.mk b) (PySem.W.Tup.mk a) = false := h1
    have h2' : PySem.W.DatumOrd.lt (PySem.W.Tup.mk c) (PySem.W.Tup.mk b) = false := h2
    rw [← PySem.W.DatumOrd.lt_eq] at h' h1' h2'
    rcases (PyProof.Rows.lex_negTrans (O := PyProof.Rows.itemOrd) _ (PySem.W.keyToks (PySem.W.Datum.toD (PySem.W.Tup.mk b))) _ h' : _ ∨ _) with t | t
    · exact absurd (show PySem.W.dataLt _ _ = true from t) (by rw [h2']; decide)
    · exact absurd (show PySem.W.dataLt _ _ = true from t) (by rw [h1']; decide)
theorem cr_sortedT {X : Cx} (hu : X.A.units + 65 < cLine) : CallR X (.builtin "sorted") (rSortedT X.K) := by
  intro pins s σ H vs us Q I r h
  obtain ⟨a, ys, ts, rfl, hs, ht, hne, q⟩ := h
  obtain ⟨its, rv, hl, hz⟩ := I.list hs
  rw [Vals.ref1 r]
  obtain ⟨as, ra⟩ := Dp.readsAll I _ _ its ht.dp rv
  have hyl := rv.length
  obtain ⟨bs, e1, e2, e3⟩ := tps_pairs ht rv
  subst e1 e2
  rw [List.map_map] at ra
  have hbl : bs.length ≤ sizeLine := by
    have := ht.len
    rw [List.length_map] at this
    omega
  refine PySem.W.sorted_data (β := Addr × List Int) (bs := bs) (enc := fun b => tD b.2) (R := fun v b => v = Value.ref b.1) hl.isList (each_ref bs) (each_reads ra) ?_ ?_ hbl (fun b _ => ?_) (fun out hol ho => ?_)
  · exact PySem.W.AllAlike.of fun b b' => PySem.W.DatumOrd.alike (PySem.W.Tup.mk b.2) (PySem.W.Tup.mk b'.2)
  · refine .inl fun d hd => ?_
    obtain ⟨b, hb, rfl⟩ := List.mem_map.mp hd
    have hn := hne b.2 (List.mem_map.mpr ⟨b, hb, rfl⟩)
    cases hbb : b.2 with
    | nil => exact absurd hbb hn
    | cons x xs => exact ⟨PyData.int x, xs.map PyData.int, rfl⟩
  · have := PySem.W.Datum.depth_le (PySem.W.Tup.mk b.2)
    rw [toD_tup] at this
    have d1 : PySem.W.Datum.depth (PySem.W.Tup Int) ≤ 60 := by decide
    show X.A.units + 2 + (tD b.2).depth < cLine
    omega
  · have eo := ref_each ho
    subst eo
    have hp : (bs.mergeSort (PySem.W.dataLe false fun b => tD b.2)).Perm bs := List.mergeSort_perm _ _
    have hs2 : (bs.mergeSort (PySem.W.dataLe false fun b => tD b.2)).Pairwise (fun p q => leT p.2 q.2) := by
      have h := List.pairwise_mergeSort (le := PySem.W.dataLe false fun b : Addr × List Int => tD b.2) (fun p q r h1 h2 => by
        rw [dataLe_tup (fun b : Addr × List Int => b.2)] at *
        have := leT_trans (a := p.2) (b := q.2) (c := r.2) (by unfold leT; simpa using h1) (by unfold leT; simpa using h2)
        rw [show PySem.W.listLt r.2 p.2 = false from this]
        rfl) (fun p q => by
        rw [dataLe_tup (fun b : Addr × List Int => b.2), dataLe_tup (fun b : Addr × List Int => b.2)]
        rcases le_total9 q.2 p.2 with h | h <;> rw [h] <;> simp) bs
      refine List.Pairwise.imp (fun {p q} h => ?_) h
      rw [dataLe_tup (fun b : Addr × List Int => b.2)] at h
      show PySem.W.listLt q.2 p.2 = false
      simpa using h
    generalize bs.mergeSort (PySem.W.dataLe false fun b => tD b.2) = ms at *
    obtain ⟨e, he⟩ := PyProof.Rows.sortedAll_at s.heap (bs.map fun b => Value.ref b.1) (ms.map fun b => Value.ref b.1).toArray
    refine ⟨.ref (s.heap.objs.size + 1), upd H (s.heap.objs.size + 1) (.lst (ms.map fun b => V.ref b.1)), I.laid (t' := s.toks) (fun b u h => PyProof.Rows.sortedAll_old h) (Nat.le_succ _) ⟨?_, _, e, pairs_vals ms, he⟩, rfl, q _ (ms.map (·.2)) _ (hp.map _) (List.pairwise_map.mpr hs2) (I.hok.fresh (Nat.le_succ _)) (pairs_tps fun b hb => e3 b (hp.mem_iff.mp hb))⟩
    rw [List.length_map, hp.length_eq]
    exact hbl
theorem srtTQ {X : Cx} (K : PySem.W.Frag) (hu : X.A.units + 65 < cLine) (h : X.K = K := by rfl) : CallR X (.builtin "sorted") (rSortedT K) := by
  subst h
  exact cr_sortedT hu
theorem perm_leT : ∀ {us ts : List (List Int)}, us.Perm ts → us.Pairwise leT → ts.Pairwise leT → us = ts
  | [], [], _, _, _ => rfl
  | [], _ :: _, h, _, _ => by have := h.length_eq; cases this
  | _ :: _, [], h, _, _ => by have := h.length_eq; cases this
  | u :: us, t :: ts, h, h1, h2 => by
    obtain ⟨a1, a2⟩ := List.pairwise_cons.mp h1
    obtain ⟨b1, b2⟩ := List.pairwise_cons.mp h2
    have e : u = t := by
      rcases List.mem_cons.mp (h.mem_iff.mp List.mem_cons_self) with e | hu
      · exact e
      · rcases List.mem_cons.mp (h.mem_iff.mpr (List.mem_cons_self (a := t) (l := ts))) with e | ht
        · exact e.symm
        · exact leT_antisymm (a1 t ht) (b1 u hu)
    subst e
    rw [perm_leT h.cons_inv a2 b2]
namespace R
theorem srtT {K : PySem.W.Frag} {H : Hp} {Q : VK} {a : Addr} {vs : List V} {ts : List (List Int)} (h : SqL K H a vs) (ht : Tps K H vs ts) (hne : ∀ t ∈ ts, t ≠ [])
    (q : ∀ zs us H' p, us.Perm ts → us.Pairwise leT → Same H H' → H p = none → H' p = some (.lst zs) → Tps K H' zs us → Q (.ref p) H') : rSortedT K [.ref a] H Q :=
  ⟨a, vs, ts, rfl, h, ht, hne, fun zs us p h1 h2 np h3 => q zs us _ p h1 h2 (same_upd np) np upd_same (h3.same (same_upd np))⟩
end R

/-! ### lists of new tuples -/
namespace R
section
variable {K : PySem.W.Frag} {te : TE} {σ : L2.St} {H : Hp} {Q : VK}
theorem mapi_snoc {α : Type} (f : Nat → α) (i : Nat) : (List.range (i + 1)).map f = (List.range i).map f ++ [f i] := by
  rw [List.range_succ, List.map_append]
  rfl
/-- a comprehension over a tuple of any things, each gives a new tuple of ints -/
theorem lcTp {a : Addr} {xs : List V} {g : TG} {vs : List Nat} (f : Nat → List Int) (hl : xs.length ≤ 1000) (hT : SqT K H a xs)
    (hs : ∀ (i : Nat) (x : V) (H' : Hp) (Q' : VK), xs[i]? = some x → Same H H' → (∀ H2 p, Same H' H2 → SqT K H2 p ((f i).map V.int) → Q' (.ref p) H2) → g x (wipe σ vs) H' fun σ2 H2 => wipe σ2 vs = wipe σ vs ∧ te σ2 H2 Q')
    (hq : ∀ H' D ys, H' D = some (.lst ys) → Tps K H' ys ((List.range xs.length).map f) → Same H H' → H D = none → Q (.ref D) H') : LcJ (Itt K a) g tYes te vs σ H Q := by
  intro D nD
  refine lc_tup (K := K) (a := a) (xs := xs) (fun i H' => ∃ ys, H' D = some (.lst ys) ∧ ys.length = i ∧ Tps K H' ys ((List.range i).map f) ∧ Same H H') ⟨[], upd_same, rfl, .nil, same_upd nD⟩ (fun i H' _ h => same_seqT h.choose_spec.2.2.2 hT) (fun i x H5 hx ⟨ys, h1, h2, h3, h5⟩ => ?_) (fun H5 ⟨ys, h1, h2, h3, h5⟩ => ?_)
  · have hi : i < xs.length := (List.getElem?_eq_some_iff.mp hx).1
    refine hs i x H5 _ hx h5 (fun H2 p s2 sp => ⟨ys, s2 _ _ h1, ?_, ys ++ [.ref p], ?_, ?_, ?_, ?_⟩)
    · exact small1000 (by omega)
    · rw [upd_same]
    · rw [List.length_append, h2]
      rfl
    · rw [mapi_snoc]
      exact ((h3.same s2).kt fun c zs h => upd_seqT (s2 _ _ h1) h).snoc (upd_seqT (s2 _ _ h1) sp)
    · exact same_mut (h5.trans s2) nD
  · exact hq H5 D ys h1 h3 h5 nD
end
end R
/-! ### self changes of definite forms, classes -/
def unitsL (d : Int) : List (Int × Int) := if d = -3 then [(2, 0), (1, 1), (-1, 1), (-2, 0), (-1, -1), (1, -1)] else if d = -4 then [(2, 0), (0, 1), (-2, 0), (0, -1)] else [(2, 0), (-2, 0)]
def ucM (a b c t u : Int) : List Int := [(t - b * u) / 2, -c * u, a * u, (t + b * u) / 2]
def selfL (a b c : Int) : List (List Int) := (unitsL (dsc (a.fdiv (gL [a, b, c])) (b.fdiv (gL [a, b, c])) (c.fdiv (gL [a, b, c])))).map fun p => ucM (a.fdiv (gL [a, b, c])) (b.fdiv (gL [a, b, c])) (c.fdiv (gL [a, b, c])) p.1 p.2
/-- a place of the walk over a and b -/
def okC (d a b : Int) : Bool := decide ((b * b - d) % (4 * a) = 0) && (decide (RedD a b ((b * b - d) / (4 * a))) && decide (gL [a, b, (b * b - d) / (4 * a)] = 1))
def cellC (d a b : Int) : List (List Int) := if okC d a b then [[a, b, (b * b - d) / (4 * a)]] else []
def rowC (d a : Int) (n : Nat) : List (List Int) := (List.range n).flatMap fun (j : Nat) => cellC d a (1 - a + (j : Int))
def clsC (d : Int) (n : Nat) : List (List Int) := (List.range n).flatMap fun (i : Nat) => rowC d (1 + (i : Int)) (2 * (i + 1))
theorem rowC_succ (d a : Int) (n : Nat) : rowC d a (n + 1) = rowC d a n ++ cellC d a (1 - a + (n : Int)) := by
  unfold rowC
  rw [List.range_succ, List.flatMap_append]
  simp
theorem clsC_succ (d : Int) (n : Nat) : clsC d (n + 1) = clsC d n ++ rowC d (1 + (n : Int)) (2 * (n + 1)) := by
  unfold clsC
  rw [List.range_succ, List.flatMap_append]
  simp
theorem rowC_len (d a : Int) : ∀ n : Nat, (rowC d a n).length ≤ n
  | 0 => Nat.le_refl _
  | n + 1 => by
    rw [rowC_succ, List.length_append]
    have := rowC_len d a n
    have : (cellC d a (1 - a + (n : Int))).length ≤ 1 := by
      unfold cellC
      split <;> simp
    omega
theorem clsC_len (d : Int) : ∀ n : Nat, (clsC d n).length ≤ n * (n + 1)
  | 0 => Nat.le_refl _
  | n + 1 => by
    rw [clsC_succ, List.length_append]
    have := clsC_len d n
    have := rowC_len d (1 + (n : Int)) (2 * (n + 1))
    have e : (n + 1) * (n + 1 + 1) = n * (n + 1) + 2 * (n + 1) := by
      rw [Nat.add_mul, Nat.mul_add, Nat.mul_add]
      omega
    omega
/-- how many values of a there are -/
def manyC (d : Int) : Nat := (rootI ((-d) / 3)).toNat
theorem mem_rowC {d a : Int} {n : Nat} {t : List Int} (h : t ∈ rowC d a n) : ∃ j : Nat, j < n ∧ okC d a (1 - a + (j : Int)) = true ∧ t = [a, 1 - a + (j : Int), ((1 - a + (j : Int)) * (1 - a + (j : Int)) - d) / (4 * a)] := by
  unfold rowC at h
  obtain ⟨j, hj, ht⟩ := List.mem_flatMap.mp h
  unfold cellC at ht
  split at ht
  · rename_i hk
    exact ⟨j, List.mem_range.mp hj, hk, List.mem_singleton.mp ht⟩
  · cases ht
theorem lt_head {x y : Int} {xs ys : List Int} (h : x < y) : PySem.W.listLt (x :: xs) (y :: ys) = true := by
  unfold PySem.W.listLt
  rw [if_neg (by omega)]
  exact decide_eq_true h
theorem le_head {x y : Int} {xs ys : List Int} (h : x < y) : leT (x :: xs) (y :: ys) := by
  unfold leT PySem.W.listLt
  rw [if_neg (by omega)]
  exact decide_eq_false (show ¬ y < x by omega)
theorem le_tail {x : Int} {xs ys : List Int} (h : leT xs ys) : leT (x :: xs) (x :: ys) := by
  unfold leT at *
  unfold PySem.W.listLt
  rw [if_pos rfl]
  exact h
/-- the walk goes up -/
theorem rowC_sorted (d a : Int) : ∀ n : Nat, (rowC d a n).Pairwise leT
  | 0 => List.Pairwise.nil
  | n + 1 => by
    rw [rowC_succ]
    refine List.pairwise_append.mpr ⟨rowC_sorted d a n, ?_, fun x hx y hy => ?_⟩
    · unfold cellC
      split
      · exact List.pairwise_singleton _ _
      · exact List.Pairwise.nil
    · obtain ⟨j, hj, _, rfl⟩ := mem_rowC hx
      unfold cellC at hy
      split at hy
      · rw [List.mem_singleton.mp hy]
        exact le_tail (le_head (by omega))
      · cases hy
theorem clsC_sorted (d : Int) : ∀ n : Nat, (clsC d n).Pairwise leT ∧ ∀ t ∈ clsC d n, ∃ a x y : Int, t = [a, x, y] ∧ a < 1 + (n : Int)
  | 0 => ⟨List.Pairwise.nil, fun t h => by cases h⟩
  | n + 1 => by
    obtain ⟨h1, h2⟩ := clsC_sorted d n
    rw [clsC_succ]
    refine ⟨List.pairwise_append.mpr ⟨h1, rowC_sorted _ _ _, fun x hx y hy => ?_⟩, fun t ht => ?_⟩
    · obtain ⟨a, x1, x2, rfl, ha⟩ := h2 x hx
      obtain ⟨j, _, _, rfl⟩ := mem_rowC hy
      exact le_head ha
    · rcases List.mem_append.mp ht with h | h
      · obtain ⟨a, x1, x2, rfl, ha⟩ := h2 t h
        exact ⟨a, x1, x2, rfl, by omega⟩
      · obtain ⟨j, _, _, rfl⟩ := mem_rowC h
        exact ⟨_, _, _, rfl, by omega⟩

/-! ### small self changes, by a table -/
def fixM (k : Int) : List Int := [k % 3 - 1, k / 3 % 3 - 1, k / 9 % 3 - 1, k / 27 - 1]
def fixB (a b c p q r s : Int) : Bool := decide (p * s - q * r = 1) && decide (a * p * p + b * p * r + c * r * r = a ∧ 2 * a * p * q + b * (p * s + q * r) + 2 * c * r * s = b ∧ a * q * q + b * q * s + c * s * s = c)
def fixC (a b c k : Int) : List (List Int) := if fixB a b c (k % 3 - 1) (k / 3 % 3 - 1) (k / 9 % 3 - 1) (k / 27 - 1) then [fixM k] else []
def fixL (a b c : Int) (n : Nat) : List (List Int) := (List.range n).flatMap fun (k : Nat) => fixC a b c (0 + (k : Int))
theorem fixL_succ (a b c : Int) (n : Nat) : fixL a b c (n + 1) = fixL a b c n ++ fixC a b c (0 + (n : Int)) := by
  unfold fixL
  rw [List.range_succ, List.flatMap_append]
  simp
theorem fixL_len (a b c : Int) : ∀ n : Nat, (fixL a b c n).length ≤ n
  | 0 => Nat.le_refl _
  | n + 1 => by
    rw [fixL_succ, List.length_append]
    have := fixL_len a b c n
    have : (fixC a b c (0 + (n : Int))).length ≤ 1 := by
      unfold fixC
      split <;> simp
    omega
theorem fixL_ne {a b c : Int} {n : Nat} {t : List Int} (h : t ∈ fixL a b c n) : t ≠ [] := by
  unfold fixL at h
  obtain ⟨k, _, ht⟩ := List.mem_flatMap.mp h
  unfold fixC at ht
  split at ht
  · rw [List.mem_singleton.mp ht]
    exact List.cons_ne_nil _ _
  · cases ht
theorem selfL_ne {a b c : Int} {t : List Int} (h : t ∈ selfL a b c) : t ≠ [] := by
  unfold selfL at h
  obtain ⟨k, _, rfl⟩ := List.mem_map.mp h
  exact List.cons_ne_nil _ _
/-- the forms that the law takes -/
def formB (a r s : Nat) : Bool := (selfL (1 + (a : Int)) (r : Int) (1 + (a : Int) + (s : Int))).isPerm (fixL (1 + (a : Int)) (r : Int) (1 + (a : Int) + (s : Int)) 81)
theorem forms_ok : ((List.range 6).all fun a => (List.range (a + 2)).all fun r => (List.range 4).all fun s => formB a r s) = true := by decide +kernel
theorem form_ok {a b c : Int} (h1 : 1 ≤ a) (h2 : a ≤ 6) (h3 : 0 ≤ b) (h4 : b ≤ a) (h5 : a ≤ c) (h6 : c ≤ a + 3) : (selfL a b c).Perm (fixL a b c 81) := by
  have h := List.all_eq_true.mp forms_ok (a - 1).toNat (List.mem_range.mpr (by omega))
  have h := List.all_eq_true.mp h b.toNat (List.mem_range.mpr (by omega))
  have h := List.all_eq_true.mp h (c - a).toNat (List.mem_range.mpr (by omega))
  have e1 : 1 + (((a - 1).toNat : Nat) : Int) = a := by omega
  have e2 : ((b.toNat : Nat) : Int) = b := by omega
  have e3 : a + (((c - a).toNat : Nat) : Int) = c := by omega
  unfold formB at h
  rw [e1, e2, e3] at h
  exact List.isPerm_iff.mp h

theorem selfL_len (a b c : Int) : (selfL a b c).length ≤ 6 := by
  unfold selfL unitsL
  rw [List.length_map]
  split
  · decide
  · split <;> decide
theorem gL_small {a b c : Int} (h1 : 1 ≤ a) (h2 : a ≤ 6) : gL [a, b, c] ≠ 0 ∧ Bd 60 (gL [a, b, c]) := by
  rw [gL_three]
  have p : 0 < Nat.gcd (Nat.gcd a.natAbs b.natAbs) c.natAbs := Nat.gcd_pos_of_pos_left _ (Nat.gcd_pos_of_pos_left _ (by omega))
  have l : Nat.gcd (Nat.gcd a.natAbs b.natAbs) c.natAbs ≤ a.natAbs := Nat.le_trans (Nat.gcd_le_left _ (Nat.gcd_pos_of_pos_left _ (by omega))) (Nat.gcd_le_left _ (by omega))
  exact ⟨by omega, Bd.om (by omega)⟩
theorem gL_gI (a b c : Int) : gI (gI a b) c = gL [a, b, c] := by
  rw [gL_three]
  rfl
theorem clsC_ne {d : Int} {n : Nat} {t : List Int} (h : t ∈ clsC d n) : t ≠ [] := by
  obtain ⟨a, x, y, rfl, _⟩ := (clsC_sorted d n).2 t h
  exact List.cons_ne_nil _ _
theorem many_ok {d : Int} (h0 : d < 0) (h1 : -1700 ≤ d) : manyC d ≤ 24 ∧ ∀ i : Nat, 3 * (1 + (i : Int)) * (1 + (i : Int)) ≤ -d ↔ i < manyC d := by
  have q0 : 0 ≤ (-d) / 3 := by omega
  obtain ⟨r0, r1, r2⟩ := rootI_spec q0
  unfold manyC
  generalize rootI ((-d) / 3) = r at *
  refine ⟨?_, fun i => ?_⟩
  · by_cases z : r ≤ 24
    · omega
    · have := Int.mul_le_mul (show 25 ≤ r by omega) (show 25 ≤ r by omega) (by omega) (by omega)
      omega
  · have e : 3 * (1 + (i : Int)) * (1 + (i : Int)) = 3 * ((1 + (i : Int)) * (1 + (i : Int))) := Int.mul_assoc _ _ _
    rw [e]
    constructor
    · intro h
      by_cases z : i < r.toNat
      · exact z
      · have := Int.mul_le_mul (show r + 1 ≤ 1 + (i : Int) by omega) (show r + 1 ≤ 1 + (i : Int) by omega) (by omega) (by omega)
        omega
    · intro h
      have := Int.mul_le_mul (show 1 + (i : Int) ≤ r by omega) (show 1 + (i : Int) ≤ r by omega) (by omega) r0
      omega
section
variable {P : Program} {w : World} {K : PySem.W.Frag} {mg : Str → Option Value} {base : Heap} {fa : Nat → Addr} {fd : Nat → FuncData}
set_option hygiene false
local macro_rules | `(tactic| clean_wf) => `(tactic| (repeat' (first   | with_reducible apply R.var   | with_reducible apply R.gsE   | ((with_reducible apply R.gsN); (focus exact rfl))   | with_reducible apply R.lenS   | ((with_reducible apply R.lenB); exact rfl)   | ((with_reducible apply R.isEq); exact rfl)   | with_reducible apply R.op   | with_reducible apply R.i2   | with_reducible apply R.i0   | with_reducible apply R.con   | with_reducible apply R.cons   | with_reducible apply R.nil   | ((with_reducible apply R.gBd); first | with_reducible assumption | with_reducible apply Bd.mul | with_reducible apply Bd.add | with_reducible apply Bd.sub | ((with_reducible apply Bd.l8); exact eq_true (by decide)) | ((with_reducible apply Bd.lit); exact eq_true (by decide)) | with_reducible apply Bd.neg | with_reducible apply Bd.div | with_reducible apply Bd.abs | with_reducible apply Bd.mod | with_reducible apply Bd.fdiv | ((with_reducible apply Bd.om); omega))   | with_reducible apply Bd.mulW   | ((with_reducible apply R.gSqT); first | with_reducible assumption | ((with_reducible apply SqT.of); with_reducible assumption) | ((with_reducible apply same_seqT); with_reducible assumption) | ((with_reducible apply kp_seqT); with_reducible assumption) | with_reducible apply hU)   | ((with_reducible apply R.isLe); first | decide | omega)   | with_reducible apply R.gcons   | with_reducible apply R.gname   | ((with_reducible apply R.ixT); (focus ((repeat' (first | with_reducible assumption | with_reducible apply hU | ((with_reducible apply SqT.of); with_reducible assumption) | ((with_reducible apply same_seqT); with_reducible assumption) | ((with_reducible apply kp_seqT); with_reducible assumption) | ((with_reducible apply Dw.same); with_reducible assumption))); done)); exact rfl)   | ((with_reducible apply R.ixL); (focus ((repeat' (first | with_reducible assumption | ((with_reducible apply SqL.of); with_reducible assumption) | ((with_reducible apply Same.seq); with_reducible assumption) | ((with_reducible apply Kp.seqL); with_reducible assumption) | ((with_reducible apply fresh_ne); with_reducible assumption) | ((with_reducible apply Dw.same); with_reducible assumption))); done)); exact rfl)   | with_reducible apply R.test   | with_reducible apply R.tb'   | with_reducible apply R.isbl   | with_reducible apply R.cmp   | with_reducible apply R.t2i   | with_reducible apply R.intp   | with_reducible apply R.ifs   | with_reducible apply R.asg   | with_reducible apply R.seq   | with_reducible apply R.gtup   | with_reducible apply R.u1   | with_reducible apply R.un   | with_reducible apply R.ret   | with_reducible apply R.next   | with_reducible apply R.call   | with_reducible apply iteT   | with_reducible apply iteF   | with_reducible assumption   | with_reducible apply R.tup   | with_reducible apply R.lst   | with_reducible apply R.callB   | with_reducible apply R.gnil   | with_reducible apply R.brk   | with_reducible apply R.cont   | with_reducible apply R.drop   | with_reducible apply R.par   | with_reducible apply R.par2   | with_reducible apply R.par3   | with_reducible apply R.par4   | with_reducible apply R.tif   | with_reducible apply R.and   | with_reducible apply R.or   | with_reducible apply R.not   | with_reducible apply R.andV   | with_reducible apply R.orV   | with_reducible apply R.notV   | with_reducible apply R.chain   | with_reducible apply R.tupL   | with_reducible apply R.lstL   | with_reducible apply R.cat   | with_reducible apply R.absI   | with_reducible apply R.intI   | with_reducible apply R.intB   | with_reducible apply R.eqS   | with_reducible apply R.eqBl   | with_reducible apply R.neBl   | with_reducible apply R.sl   | with_reducible apply R.noPart   | with_reducible apply R.part   | with_reducible apply R.isInt   | with_reducible apply R.slL   | with_reducible apply R.isiT   | with_reducible apply R.isiLst   | with_reducible apply R.nwT   | with_reducible apply R.nwL   | ((with_reducible apply R.mt); intro HN tn sn nn ht)   | ((with_reducible apply R.ml); intro HN tn sn nn ht)   | ((with_reducible apply R.isiTupS); focus ((repeat' (first | with_reducible assumption | with_reducible apply hU | ((with_reducible apply SqT.of); with_reducible assumption) | ((with_reducible apply same_seqT); with_reducible assumption) | ((with_reducible apply kp_seqT); with_reducible assumption) | ((with_reducible apply Dw.same); with_reducible assumption))); done))   | ((with_reducible apply R.ne4); focus ((repeat' (first | with_reducible assumption | with_reducible apply hU | ((with_reducible apply SqT.of); with_reducible assumption) | ((with_reducible apply same_seqT); with_reducible assumption) | ((with_reducible apply kp_seqT); with_reducible assumption) | ((with_reducible apply Dw.same); with_reducible assumption))); done))   | ((with_reducible apply R.ne3); focus ((repeat' (first | with_reducible assumption | with_reducible apply hU | ((with_reducible apply SqT.of); with_reducible assumption) | ((with_reducible apply same_seqT); with_reducible assumption) | ((with_reducible apply kp_seqT); with_reducible assumption) | ((with_reducible apply Dw.same); with_reducible assumption))); done))   | ((with_reducible apply R.ne2); focus ((repeat' (first | with_reducible assumption | with_reducible apply hU | ((with_reducible apply SqT.of); with_reducible assumption) | ((with_reducible apply same_seqT); with_reducible assumption) | ((with_reducible apply kp_seqT); with_reducible assumption) | ((with_reducible apply Dw.same); with_reducible assumption))); done))   | ((with_reducible apply R.eq4); focus ((repeat' (first | with_reducible assumption | with_reducible apply hU | ((with_reducible apply SqT.of); with_reducible assumption) | ((with_reducible apply same_seqT); with_reducible assumption) | ((with_reducible apply kp_seqT); with_reducible assumption) | ((with_reducible apply Dw.same); with_reducible assumption))); done))   | ((with_reducible apply R.eq3); focus ((repeat' (first | with_reducible assumption | with_reducible apply hU | ((with_reducible apply SqT.of); with_reducible assumption) | ((with_reducible apply same_seqT); with_reducible assumption) | ((with_reducible apply kp_seqT); with_reducible assumption) | ((with_reducible apply Dw.same); with_reducible assumption))); done))   | ((with_reducible apply R.eq2); focus ((repeat' (first | with_reducible assumption | with_reducible apply hU | ((with_reducible apply SqT.of); with_reducible assumption) | ((with_reducible apply same_seqT); with_reducible assumption) | ((with_reducible apply kp_seqT); with_reducible assumption) | ((with_reducible apply Dw.same); with_reducible assumption))); done))   | ((with_reducible apply R.nw); intro HN tn sn ht)   | with_reducible apply R.notT   | with_reducible apply R.notF   | ((with_reducible apply SqL.of); with_reducible assumption)   | ((with_reducible apply sameB); with_reducible assumption)   | ((with_reducible apply same_at); with_reducible assumption)   | ((with_reducible apply Same.seq); with_reducible assumption)   | ((with_reducible apply Kp.seqL); with_reducible assumption)   | ((with_reducible apply fresh_ne); with_reducible assumption)   | ((with_reducible apply Dw.same); with_reducible assumption)   | ((with_reducible apply R.isEq); exact eq_true (by first | decide | omega))   | ((with_reducible apply R.isLt); first | decide | omega)   | ((with_reducible apply R.isLtI); first | decide | omega)   | ((with_reducible apply R.isLeI); first | decide | omega)   | ((with_reducible apply R.cdiv); exact rfl)   | ((with_reducible apply R.cpow); exact rfl)   | with_reducible apply R.cdivX   | ((with_reducible apply R.isNe); omega)   | ((with_reducible apply wayNF); first | exact rfl | exact ⟨rfl, rfl⟩ | exact ⟨rfl, rfl, rfl⟩ | exact ⟨rfl, rfl, rfl, rfl⟩)   | with_reducible apply R.bm   | ((with_reducible apply R.bmT); (focus ((first | with_reducible assumption | ((with_reducible apply same_at); with_reducible assumption) | ((with_reducible apply kp_at); with_reducible assumption)); done)))   | with_reducible apply R.dput   | with_reducible apply R.dget   | with_reducible apply R.din   | with_reducible apply R.dget2   | with_reducible apply R.forE   | with_reducible apply R.rng1   | with_reducible apply R.rng2   | with_reducible apply R.rg1   | with_reducible apply R.rg2   | with_reducible apply R.lcE   | with_reducible apply R.itup   | with_reducible apply R.ilst   | with_reducible apply uLawNext   | with_reducible apply uLawWorth   | with_reducible apply uDiscriminant   | with_reducible apply uLawAct   | with_reducible apply uUnitChange   | with_reducible apply uFloorRoot   | with_reducible apply uIsReduced   | with_reducible apply uLawMeasure   | with_reducible apply uContent   | with_reducible apply uDivided   | fail   )))
local macro_rules | `(tactic| sizeOf_list_dec) => `(tactic| (repeat' (first | with_reducible exact Kp.refl | with_reducible assumption | ((with_reducible apply kpB); first | with_reducible assumption | ((with_reducible apply same_kp); with_reducible assumption)))))
local macro_rules | `(tactic| array_get_dec) => `(tactic| (repeat' (first | with_reducible assumption | ((with_reducible apply SqL.of); with_reducible assumption) | ((with_reducible apply Same.seq); with_reducible assumption) | ((with_reducible apply Kp.seqL); with_reducible assumption) | ((with_reducible apply fresh_ne); with_reducible assumption) | ((with_reducible apply Dw.same); with_reducible assumption))))
local macro_rules | `(tactic| simp_wf) => `(tactic| (repeat' (first | with_reducible assumption | with_reducible apply hU | ((with_reducible apply SqT.of); with_reducible assumption) | ((with_reducible apply same_seqT); with_reducible assumption) | ((with_reducible apply kp_seqT); with_reducible assumption) | ((with_reducible apply Dw.same); with_reducible assumption))))
local macro_rules | `(tactic| array_mem_dec) => `(tactic| (repeat' (first | with_reducible exact Same.refl _ | with_reducible assumption | ((with_reducible apply sameB); with_reducible assumption))))
set_option hygiene true
def spMeasure (K : PySem.W.Frag) : Sp := fun vs H Q _ => ∃ (l : Addr) (ns : List Int), vs = [.ref l] ∧ (SqL K H l (ns.map V.int) ∨ SqT K H l (ns.map V.int)) ∧ Q (.int (gL ns)) H
theorem uMeasureT {K : PySem.W.Frag} {H : Hp} {Q : VK} {E : XK} {vs : List V} {l : Addr} {x y : Int} (e : vs = [.ref l]) (hs : SqT K H l [.int x, .int y]) (kk : Q (.int (gL [x, y])) H) : spMeasure K vs H Q E := ⟨l, [x, y], e, .inr hs, kk⟩
theorem okMeasure (T : Txt K mg fa fd) : FnOk P w K mg base CX0 1 (fa 0) (fd 0) ["numbers"] (spMeasure K) := by
  refine T.F_measure.ok scMeasure (fun vs H Q E h => ?_) (fun cdv A outer s H vs Q E hr h => ?_)
  · obtain ⟨l, ns, rfl, hS, q⟩ := h
    rfl
  · obtain ⟨l, ns, rfl, hS, q⟩ := h
    rcases hS with hS | hS
    · refine ⟨_, (pss_cons (ps_set (i := 1) scMeasure.nd rfl (Or.inl rfl) pe_int)
      (pss_cons (ps_for PassesOwn.never rfl (piL K (pv 0)) (pg_name (i := 2) scMeasure.nd rfl (Or.inl rfl))
      (pss_one (ps_set (i := 1) scMeasure.nd rfl (Or.inl rfl) (pe_callBfun cr_gcd (by rfl) T.g_gcd (pa_cons (pv 1) (pa_cons (pv 2) pa_nil))))))
      (pss_one (ps_ret (pv 1))))), ?_⟩
      refine ⟨_, rfl, l, rfl, ⟨_, hS⟩, for_list (K := K) (a := l) (xs := ns.map V.int) (fun i σ H' => ∃ x2, σ = [some (.ref l), some (.int (gL (ns.take i))), x2] ∧ H' = H) ⟨_, rfl, rfl⟩ (fun i σ H' hi ⟨x2, e1, e2⟩ => by rw [e2]; exact hS) (fun i x σ H' hx ⟨x2, e1, e2⟩ => ?_) (fun σ H' ⟨x2, e1, e2⟩ => ?_)⟩
      · subst e1 e2
        rw [List.getElem?_map] at hx
        cases hn : ns[i]? with
        | none =>
          rw [hn] at hx
          cases hx
        | some n =>
          rw [hn] at hx
          cases hx
          refine ⟨_, rfl, _, rfl, _, _, rfl, some (.int n), ?_, rfl⟩
          rw [gL_take hn]
          rfl
      · subst e1 e2
        refine ⟨_, rfl, ?_⟩
        rw [List.length_map, List.take_length]
        exact q
    · refine ⟨_, (pss_cons (ps_set (i := 1) scMeasure.nd rfl (Or.inl rfl) pe_int)
      (pss_cons (ps_for PassesOwn.never rfl (piT K (pv 0)) (pg_name (i := 2) scMeasure.nd rfl (Or.inl rfl))
      (pss_one (ps_set (i := 1) scMeasure.nd rfl (Or.inl rfl) (pe_callBfun cr_gcd (by rfl) T.g_gcd (pa_cons (pv 1) (pa_cons (pv 2) pa_nil))))))
      (pss_one (ps_ret (pv 1))))), ?_⟩
      refine ⟨_, rfl, l, rfl, ⟨_, hS⟩, for_tup (K := K) (a := l) (xs := ns.map V.int) (fun i σ H' => ∃ x2, σ = [some (.ref l), some (.int (gL (ns.take i))), x2] ∧ H' = H) ⟨_, rfl, rfl⟩ (fun i σ H' hi ⟨x2, e1, e2⟩ => by rw [e2]; exact hS) (fun i x σ H' hx ⟨x2, e1, e2⟩ => ?_) (fun σ H' ⟨x2, e1, e2⟩ => ?_)⟩
      · subst e1 e2
        rw [List.getElem?_map] at hx
        cases hn : ns[i]? with
        | none =>
          rw [hn] at hx
          cases hx
        | some n =>
          rw [hn] at hx
          cases hx
          refine ⟨_, rfl, _, rfl, _, _, rfl, some (.int n), ?_, rfl⟩
          rw [gL_take hn]
          rfl
      · subst e1 e2
        refine ⟨_, rfl, ?_⟩
        rw [List.length_map, List.take_length]
        exact q
def spFloorRoot (_ : PySem.W.Frag) : Sp := fun vs H Q _ => ∃ n : Int, vs = [.int n] ∧ 0 ≤ n ∧ n.natAbs < 2 ^ 13000 ∧ Q (.int (rootI n)) H
theorem uFloorRoot {K : PySem.W.Frag} {H : Hp} {Q : VK} {E : XK} {vs : List V} {n : Int} (e : vs = [.int n]) (h0 : 0 ≤ n) (h1 : n < 1000000000000000000) (kk : Q (.int (rootI n)) H) : spFloorRoot K vs H Q E :=
  ⟨n, e, h0, pow_up (a := 60) (by show n.natAbs < 1152921504606846976; omega) (by decide), kk⟩
theorem okFloorRoot (T : Txt K mg fa fd) : FnOk P w K mg base CX0 1 (fa 1) (fd 1) ["n"] (spFloorRoot K) := by
  refine T.F_floor_root.ok scFloorRoot (fun vs H Q E h => ?_) (fun cdv A outer s H vs Q E hr h => ?_)
  · obtain ⟨n, rfl, h0, h1, q⟩ := h
    rfl
  · obtain ⟨n, rfl, h0, h1, q⟩ := h
    refine ⟨_, (pss_one (ps_ret (pe_callBfun cr_isqrt (by rfl) T.g_isqrt (pa_cons (pv 0) pa_nil)))), ?_⟩
    exact ⟨_, rfl, _, rfl, h0, h1, q⟩
def spDiscriminant (K : PySem.W.Frag) : Sp := fun vs H Q _ => ∃ (aform : Addr) (a b c : Int) (N : Nat), vs = [.ref aform] ∧ SqT K H aform [.int a, .int b, .int c] ∧ Bd N a ∧ Bd N b ∧ Bd N c ∧ N ≤ 400000 ∧ (Q (.int (b * b - 4 * a * c)) H)
theorem uDiscriminant {K : PySem.W.Frag} {H : Hp} {Q : VK} {E : XK} {vs : List V} {aform : Addr} {a b c : Int} {n0 n1 n2 : Nat} (hev : vs = [.ref aform]) (s0 : SqT K H aform [.int a, .int b, .int c]) (b0 : Bd n0 a) (b1 : Bd n1 b) (b2 : Bd n2 c) (hll : (n0 + n1 + n2 ≤ 400000) = True) (kk : Q (.int (b * b - 4 * a * c)) H) : spDiscriminant K vs H Q E :=
  have hll := of_eq_true hll
  ⟨aform, a, b, c, n0 + n1 + n2, hev, s0, b0.mono (by omega), b1.mono (by omega), b2.mono (by omega), hll, kk⟩
theorem okDiscriminant (T : Txt K mg fa fd) : FnOk P w K mg base CX0 1 (fa 2) (fd 2) ["form"] (spDiscriminant K) := by
  refine T.F_discriminant.ok scDiscriminant (fun vs H Q E h => ?_) (fun cdv A outer s H vs Q E hr h => ?_)
  · obtain ⟨aform, a, b, c, N, rfl, h_aform, b_a, b_b, b_c, hN, kk⟩ := h
    rfl
  · obtain ⟨aform, a, b, c, N, rfl, h_aform, b_a, b_b, b_c, hN, kk⟩ := h
    refine ⟨_, (pss_cons (ps_asg (pv 0) (pgT K 3 (by rfl) (pgs_cons (pg_name (i := 1) scDiscriminant.nd rfl (Or.inl rfl)) (pgs_cons (pg_name (i := 2) scDiscriminant.nd rfl (Or.inl rfl)) (pgs_cons (pg_name (i := 3) scDiscriminant.nd rfl (Or.inl rfl)) pgs_nil)))))
      (pss_one (ps_ret (pe_op op_sub (pe_op op_mulW (pv 2) (pv 2)) (pe_op op_mulW (pe_op op_mulW pe_int (pv 1)) (pv 3)))))), ?_⟩
    clean_wf
    all_goals first | omega | exact kk | (refine kk _ _ ?_ (by assumption); (repeat' (first | with_reducible exact Same.refl _ | with_reducible assumption | ((with_reducible apply sameB); with_reducible assumption))))
def spContent (K : PySem.W.Frag) : Sp := fun vs H Q _ => ∃ (af : Addr) (a b c : Int), vs = [.ref af] ∧ SqT K H af [.int a, .int b, .int c] ∧ Q (.int (gL [a, b, c])) H
theorem uContent {K : PySem.W.Frag} {H : Hp} {Q : VK} {E : XK} {vs : List V} {af : Addr} {a b c : Int} (e : vs = [.ref af]) (hs : SqT K H af [.int a, .int b, .int c]) (kk : Q (.int (gL [a, b, c])) H) : spContent K vs H Q E := ⟨af, a, b, c, e, hs, kk⟩
theorem okContent (T : Txt K mg fa fd) : FnOk P w K mg base CX0 2 (fa 3) (fd 3) ["form"] (spContent K) := by
  refine T.F_content.ok scContent (fun vs H Q E h => ?_) (fun cdv A outer s H vs Q E hr h => ?_)
  · obtain ⟨af, a, b, c, rfl, hs, kk⟩ := h
    rfl
  · obtain ⟨af, a, b, c, rfl, hs, kk⟩ := h
    refine ⟨_, (pss_one (ps_ret (pe_call (sp := spMeasure K) (okMeasure T) hr (by rfl) T.G_measure T.F_measure.kp T.B_measure .nil pass0 (pa_cons (pv 0) pa_nil)))), ?_⟩
    clean_wf
    exact ⟨af, [a, b, c], rfl, .inr hs, kk⟩
def spDivided (K : PySem.W.Frag) : Sp := fun vs H Q _ => ∃ (af : Addr) (a b c g : Int), vs = [.ref af, .int g] ∧ SqT K H af [.int a, .int b, .int c] ∧ g ≠ 0 ∧ Bd 9000 g ∧ R.Nw H [.int (a.fdiv g), .int (b.fdiv g), .int (c.fdiv g)] Q
theorem uDivided {K : PySem.W.Frag} {H : Hp} {Q : VK} {E : XK} {vs : List V} {af : Addr} {a b c g : Int} {n : Nat} (hev : vs = [.ref af, .int g]) (hs : SqT K H af [.int a, .int b, .int c]) (g0 : g ≠ 0) (bg : Bd n g) (l : Nat.ble n 9000 = true) (kk : R.Nw H [.int (a.fdiv g), .int (b.fdiv g), .int (c.fdiv g)] Q) : spDivided K vs H Q E := ⟨af, a, b, c, g, hev, hs, g0, bdm bg l, kk⟩
theorem okDivided (T : Txt K mg fa fd) : FnOk P w K mg base CX0 1 (fa 4) (fd 4) ["form", "number"] (spDivided K) := by
  refine T.F_divided.ok scDivided (fun vs H Q E h => ?_) (fun cdv A outer s H vs Q E hr h => ?_)
  · obtain ⟨af, a, b, c, g, rfl, hs, g0, bg, kk⟩ := h
    rfl
  · obtain ⟨af, a, b, c, g, rfl, hs, g0, bg, kk⟩ := h
    refine ⟨_, (pss_cons (ps_asg (pv 0) (pgT K 3 (by rfl) (pgs_cons (pg_name (i := 2) scDivided.nd rfl (Or.inl rfl)) (pgs_cons (pg_name (i := 3) scDivided.nd rfl (Or.inl rfl)) (pgs_cons (pg_name (i := 4) scDivided.nd rfl (Or.inl rfl)) pgs_nil)))))
      (pss_one (ps_ret (pe_tup (pa_cons (pe_op op_fdivX (pv 2) (pv 1)) (pa_cons (pe_op op_fdivX (pv 3) (pv 1)) (pa_cons (pe_op op_fdivX (pv 4) (pv 1)) pa_nil))))))), ?_⟩
    clean_wf
    all_goals first | omega | exact kk | (refine kk _ _ ?_ (by assumption); (repeat' (first | with_reducible exact Same.refl _ | with_reducible assumption | ((with_reducible apply sameB); with_reducible assumption))))
def spUnitChange (K : PySem.W.Frag) : Sp := fun vs H Q _ => ∃ (aform : Addr) (a b c t u : Int) (N : Nat), vs = [.ref aform, .int t, .int u] ∧ SqT K H aform [.int a, .int b, .int c] ∧ Bd N a ∧ Bd N b ∧ Bd N c ∧ Bd N t ∧ Bd N u ∧ N ≤ 400000 ∧ (R.Nw H [.int ((t - b * u) / 2), .int (-c * u), .int (a * u), .int ((t + b * u) / 2)] Q)
theorem uUnitChange {K : PySem.W.Frag} {H : Hp} {Q : VK} {E : XK} {vs : List V} {aform : Addr} {a b c t u : Int} {n0 n1 n2 n3 n4 : Nat} (hev : vs = [.ref aform, .int t, .int u]) (s0 : SqT K H aform [.int a, .int b, .int c]) (b0 : Bd n0 a) (b1 : Bd n1 b) (b2 : Bd n2 c) (b3 : Bd n3 t) (b4 : Bd n4 u) (hll : (n0 + n1 + n2 + n3 + n4 ≤ 400000) = True) (kk : R.Nw H [.int ((t - b * u) / 2), .int (-c * u), .int (a * u), .int ((t + b * u) / 2)] Q) : spUnitChange K vs H Q E :=
  have hll := of_eq_true hll
  ⟨aform, a, b, c, t, u, n0 + n1 + n2 + n3 + n4, hev, s0, b0.mono (by omega), b1.mono (by omega), b2.mono (by omega), b3.mono (by omega), b4.mono (by omega), hll, kk⟩
theorem okUnitChange (T : Txt K mg fa fd) : FnOk P w K mg base CX0 1 (fa 5) (fd 5) ["form", "t", "u"] (spUnitChange K) := by
  refine T.F_unit_change.ok scUnitChange (fun vs H Q E h => ?_) (fun cdv A outer s H vs Q E hr h => ?_)
  · obtain ⟨aform, a, b, c, t, u, N, rfl, h_aform, b_a, b_b, b_c, b_t, b_u, hN, kk⟩ := h
    rfl
  · obtain ⟨aform, a, b, c, t, u, N, rfl, h_aform, b_a, b_b, b_c, b_t, b_u, hN, kk⟩ := h
    refine ⟨_, (pss_cons (ps_asg (pv 0) (pgT K 3 (by rfl) (pgs_cons (pg_name (i := 3) scUnitChange.nd rfl (Or.inl rfl)) (pgs_cons (pg_name (i := 4) scUnitChange.nd rfl (Or.inl rfl)) (pgs_cons (pg_name (i := 5) scUnitChange.nd rfl (Or.inl rfl)) pgs_nil)))))
      (pss_one (ps_ret (pe_tup (pa_cons (pe_op op_fdiv (pe_op op_sub (pv 1) (pe_op op_mulW (pv 4) (pv 2))) pe_int) (pa_cons (pe_op op_mulW (pe_un un_neg (pv 5)) (pv 2)) (pa_cons (pe_op op_mulW (pv 3) (pv 2)) (pa_cons (pe_op op_fdiv (pe_op op_add (pv 1) (pe_op op_mulW (pv 4) (pv 2))) pe_int) pa_nil)))))))), ?_⟩
    clean_wf
    all_goals first | omega | exact kk | (refine kk _ _ ?_ (by assumption); (repeat' (first | with_reducible exact Same.refl _ | with_reducible assumption | ((with_reducible apply sameB); with_reducible assumption))))
def spIsReduced (K : PySem.W.Frag) : Sp := fun vs H Q _ => ∃ (af : Addr) (a b c : Int), vs = [.ref af] ∧ SqT K H af [.int a, .int b, .int c] ∧ Q (.bl (decide (RedD a b c))) H
theorem uIsReduced {K : PySem.W.Frag} {H : Hp} {Q : VK} {E : XK} {vs : List V} {af : Addr} {a b c : Int} (e : vs = [.ref af]) (hs : SqT K H af [.int a, .int b, .int c]) (kk : Q (.bl (decide (RedD a b c))) H) : spIsReduced K vs H Q E := ⟨af, a, b, c, e, hs, kk⟩
theorem okIsReduced (T : Txt K mg fa fd) : FnOk P w K mg base CX0 1 (fa 6) (fd 6) ["form"] (spIsReduced K) := by
  refine T.F_is_reduced.ok scIsReduced (fun vs H Q E h => ?_) (fun cdv A outer s H vs Q E hr h => ?_)
  · obtain ⟨af, a, b, c, rfl, hs, kk⟩ := h
    rfl
  · obtain ⟨af, a, b, c, rfl, hs, kk⟩ := h
    refine ⟨_, (pss_cons (ps_asg (pv 0) (pgT K 3 (by rfl) (pgs_cons (pg_name (i := 1) scIsReduced.nd rfl (Or.inl rfl)) (pgs_cons (pg_name (i := 2) scIsReduced.nd rfl (Or.inl rfl)) (pgs_cons (pg_name (i := 3) scIsReduced.nd rfl (Or.inl rfl)) pgs_nil)))))
      (pss_one (ps_ret (pe_and (pe_chain3 op_lt op_le op_le (pe_un un_neg (pv 1)) (pv 2) (pv 1) (pv 3)) (pe_one (pe_or (pe_cmp (pc_ge (pv 2) pe_int)) (pe_one (pe_cmp (pc_neI (pv 1) (pv 3)))))))))), ?_⟩
    clean_wf
    refine r_chain3 ?_
    clean_wf
    by_cases z1 : -a < b
    rotate_left
    · rw [decide_eq_false z1]
      rw [decide_eq_false (fun h => z1 h.1)] at kk
      clean_wf
    rw [decide_eq_true z1]
    clean_wf
    by_cases z2 : b ≤ a
    rotate_left
    · rw [decide_eq_false z2]
      rw [decide_eq_false (fun h => z2 h.2.1)] at kk
      clean_wf
    rw [decide_eq_true z2]
    clean_wf
    by_cases z3 : a ≤ c
    rotate_left
    · rw [decide_eq_false z3]
      rw [decide_eq_false (fun h => z3 h.2.2.1)] at kk
      clean_wf
    rw [decide_eq_true z3]
    clean_wf
    by_cases z4 : 0 ≤ b
    · rw [decide_eq_true z4]
      rw [decide_eq_true (show RedD a b c from ⟨z1, z2, z3, .inl z4⟩)] at kk
      clean_wf
    rw [decide_eq_false z4]
    clean_wf
    have e : decide (RedD a b c) = !decide (a = c) := by
      by_cases z5 : a = c
      · rw [decide_eq_true z5, decide_eq_false (fun h => h.2.2.2.elim z4 (fun h => h z5))]
        rfl
      · rw [decide_eq_false z5, decide_eq_true (show RedD a b c from ⟨z1, z2, z3, .inr z5⟩)]
        rfl
    rw [e] at kk
    clean_wf
def spSelfChanges (K : PySem.W.Frag) : Sp := fun vs H Q _ => ∃ (af : Addr) (a b c : Int), vs = [.ref af] ∧ SqT K H af [.int a, .int b, .int c] ∧ gL [a, b, c] ≠ 0 ∧ Bd 60 (gL [a, b, c]) ∧ Bd 60 a ∧ Bd 60 b ∧ Bd 60 c ∧
  ∀ H' l ys, Same H H' → H l = none → H' l = some (.lst ys) → Tps K H' ys (selfL a b c) → Q (.ref l) H'
theorem okSelfChanges (T : Txt K mg fa fd) : FnOk P w K mg base CX0 3 (fa 7) (fd 7) ["form"] (spSelfChanges K) := by
  refine T.F_self_changes.ok scSelfChanges (fun vs H Q E h => ?_) (fun cdv A outer s H vs Q E hr h => ?_)
  · obtain ⟨af, a, b, c, rfl, hs, g0, bg, ba, bb, bc, kk⟩ := h
    rfl
  · obtain ⟨af, a, b, c, rfl, hs, g0, bg, ba, bb, bc, kk⟩ := h
    refine ⟨_, (pss_cons (ps_set (i := 1) scSelfChanges.nd rfl (Or.inr rfl) (pe_call (sp := spDivided K) (okDivided T) (hr.mono (by decide)) (by rfl) T.G_divided T.F_divided.kp T.B_divided .nil pass0 (pa_cons (pv 0) (pa_cons (pe_call (sp := spContent K) (okContent T) hr (by rfl) T.G_content T.F_content.kp T.B_content .nil pass0 (pa_cons (pv 0) pa_nil)) pa_nil))))
      (pss_cons (ps_set (i := 2) scSelfChanges.nd rfl (Or.inl rfl) (pe_call (sp := spDiscriminant K) (okDiscriminant T) (hr.mono (by decide)) (by rfl) T.G_discriminant T.F_discriminant.kp T.B_discriminant .nil pass0 (pa_cons (pv 1) pa_nil)))
      (pss_cons (ps_set (i := 3) scSelfChanges.nd rfl (Or.inl rfl) (pe_ifExp (pt_cmp (pc_eqI (pv 2) (pe_un un_neg pe_int))) (pe_glob (v := .ref (fa 18)) (by rfl) T.g_UNITS_OF_3 rfl) (pe_ifExp (pt_cmp (pc_eqI (pv 2) (pe_un un_neg pe_int))) (pe_glob (v := .ref (fa 19)) (by rfl) T.g_UNITS_OF_4 rfl) (pe_glob (v := .ref (fa 20)) (by rfl) T.g_OTHER_UNITS rfl))))
      (pss_one (ps_ret (pe_lc (own := [("t", 4), ("u", 5)])  (tt := tYes) rfl scSelfChanges.nd (piT K (pv 3)) (blkOk_by (own := [("t", 4), ("u", 5)]) (N := ["form", "part", "d", "units", "t", "u"]) (sc := defScope sSelfChanges) (by decide +kernel)) (fun _ _ _ _ _ => (pgT K 2 (by rfl) (pgs_cons (pg_name (i := 4) scSelfChanges.nd rfl (Or.inl rfl)) (pgs_cons (pg_name (i := 5) scSelfChanges.nd rfl (Or.inl rfl)) pgs_nil)))) (fun _ _ _ _ _ => pts_nil) (fun _ _ _ _ _ => (pe_call (sp := spUnitChange K) (okUnitChange T) (hr.mono (by decide)) (by rfl) T.G_unit_change T.F_unit_change.kp T.B_unit_change .nil pass0 (pa_cons (pv 1) (pa_cons (pv 4) (pa_cons (pv 5) pa_nil))))))))))), ?_⟩
    obtain ⟨u0, u1, u2, u3, u4, u5, hU3, hA0, hA1, hA2, hA3, hA4, hA5⟩ := T.S_UNITS_OF_3
    obtain ⟨v0, v1, v2, v3, hU4, hB0, hB1, hB2, hB3⟩ := T.S_UNITS_OF_4
    obtain ⟨w0, w1, hUO, hC0, hC1⟩ := T.S_OTHER_UNITS
    unfold selfL at kk
    have gA : Bd 60 (a.fdiv (gL [a, b, c])) := ba.fdiv
    have gB : Bd 60 (b.fdiv (gL [a, b, c])) := bb.fdiv
    have gC : Bd 60 (c.fdiv (gL [a, b, c])) := bc.fdiv
    clean_wf
    generalize a.fdiv (gL [a, b, c]) = A at *
    generalize b.fdiv (gL [a, b, c]) = B at *
    generalize c.fdiv (gL [a, b, c]) = C at *
    have sP := SqT.of (K := K) ht
    have s1 := sn
    clear sn ht
    generalize tn = tP at *
    generalize HN = H1 at *
    have ed : B * B - 4 * A * C = dsc A B C := rfl
    rw [ed]
    unfold unitsL at kk
    by_cases z3 : dsc A B C = -3
    · rw [decide_eq_true z3]
      rw [if_pos z3] at kk
      clean_wf
      refine R.refs (S := SqT K _) (xs := [.ref u0, .ref u1, .ref u2, .ref u3, .ref u4, .ref u5]) (hU3 _) ?_
      have key : ∀ (i : Nat) (x : V), [V.ref u0, V.ref u1, V.ref u2, V.ref u3, V.ref u4, V.ref u5][i]? = some x → ∃ (ax : Addr) (t u : Int), x = .ref ax ∧ (∀ H, SqT K H ax [.int t, .int u]) ∧ t.natAbs ≤ 2 ∧ u.natAbs ≤ 2 ∧ ([(2, 0), (1, 1), (-1, 1), (-2, 0), (-1, -1), (1, -1)] : List (Int × Int)).getD i (0, 0) = (t, u) := by
        intro i x h
        rcases i with _ | _ | _ | _ | _ | _ | i
        · cases h
          exact ⟨_, _, _, rfl, hA0, by decide, by decide, rfl⟩
        · cases h
          exact ⟨_, _, _, rfl, hA1, by decide, by decide, rfl⟩
        · cases h
          exact ⟨_, _, _, rfl, hA2, by decide, by decide, rfl⟩
        · cases h
          exact ⟨_, _, _, rfl, hA3, by decide, by decide, rfl⟩
        · cases h
          exact ⟨_, _, _, rfl, hA4, by decide, by decide, rfl⟩
        · cases h
          exact ⟨_, _, _, rfl, hA5, by decide, by decide, rfl⟩
        · cases h
      refine R.lcTp (xs := [.ref u0, .ref u1, .ref u2, .ref u3, .ref u4, .ref u5]) (fun i => ucM A B C (([(2, 0), (1, 1), (-1, 1), (-2, 0), (-1, -1), (1, -1)] : List (Int × Int)).getD i (0, 0)).1 (([(2, 0), (1, 1), (-1, 1), (-2, 0), (-1, -1), (1, -1)] : List (Int × Int)).getD i (0, 0)).2) (by show 6 ≤ 1000; decide) (hU3 _) (fun i x H' Q' hx smx qx => ?_) (fun H5 D ys hD tp s5 nD => ?_)
      · obtain ⟨ax, t, u, rfl, sx, t2, u2, e⟩ := key i x hx
        rw [e] at qx
        have sx := sx H'
        have sP' := same_seqT smx sP
        have bt : Bd 8 t := Bd.of t2 (by decide)
        have bu : Bd 8 u := Bd.of u2 (by decide)
        clean_wf
        refine ⟨rfl, ?_⟩
        clean_wf
        exact qx _ _ sn (SqT.of ht)
      · refine kk _ _ _ (s1.trans s5) ?_ hD tp
        cases e : H D with
        | none => rfl
        | some o =>
          rw [s1 _ _ e] at nD
          cases nD
    rw [decide_eq_false z3]
    rw [if_neg z3] at kk
    clean_wf
    by_cases z4 : dsc A B C = -4
    · rw [decide_eq_true z4]
      rw [if_pos z4] at kk
      clean_wf
      refine R.refs (S := SqT K _) (xs := [.ref v0, .ref v1, .ref v2, .ref v3]) (hU4 _) ?_
      have key : ∀ (i : Nat) (x : V), [V.ref v0, V.ref v1, V.ref v2, V.ref v3][i]? = some x → ∃ (ax : Addr) (t u : Int), x = .ref ax ∧ (∀ H, SqT K H ax [.int t, .int u]) ∧ t.natAbs ≤ 2 ∧ u.natAbs ≤ 2 ∧ ([(2, 0), (0, 1), (-2, 0), (0, -1)] : List (Int × Int)).getD i (0, 0) = (t, u) := by
        intro i x h
        rcases i with _ | _ | _ | _ | i
        · cases h
          exact ⟨_, _, _, rfl, hB0, by decide, by decide, rfl⟩
        · cases h
          exact ⟨_, _, _, rfl, hB1, by decide, by decide, rfl⟩
        · cases h
          exact ⟨_, _, _, rfl, hB2, by decide, by decide, rfl⟩
        · cases h
          exact ⟨_, _, _, rfl, hB3, by decide, by decide, rfl⟩
        · cases h
      refine R.lcTp (xs := [.ref v0, .ref v1, .ref v2, .ref v3]) (fun i => ucM A B C (([(2, 0), (0, 1), (-2, 0), (0, -1)] : List (Int × Int)).getD i (0, 0)).1 (([(2, 0), (0, 1), (-2, 0), (0, -1)] : List (Int × Int)).getD i (0, 0)).2) (by show 4 ≤ 1000; decide) (hU4 _) (fun i x H' Q' hx smx qx => ?_) (fun H5 D ys hD tp s5 nD => ?_)
      · obtain ⟨ax, t, u, rfl, sx, t2, u2, e⟩ := key i x hx
        rw [e] at qx
        have sx := sx H'
        have sP' := same_seqT smx sP
        have bt : Bd 8 t := Bd.of t2 (by decide)
        have bu : Bd 8 u := Bd.of u2 (by decide)
        clean_wf
        refine ⟨rfl, ?_⟩
        clean_wf
        exact qx _ _ sn (SqT.of ht)
      · refine kk _ _ _ (s1.trans s5) ?_ hD tp
        cases e : H D with
        | none => rfl
        | some o =>
          rw [s1 _ _ e] at nD
          cases nD
    · rw [decide_eq_false z4]
      rw [if_neg z4] at kk
      clean_wf
      refine R.refs (S := SqT K _) (xs := [.ref w0, .ref w1]) (hUO _) ?_
      have key : ∀ (i : Nat) (x : V), [V.ref w0, V.ref w1][i]? = some x → ∃ (ax : Addr) (t u : Int), x = .ref ax ∧ (∀ H, SqT K H ax [.int t, .int u]) ∧ t.natAbs ≤ 2 ∧ u.natAbs ≤ 2 ∧ ([(2, 0), (-2, 0)] : List (Int × Int)).getD i (0, 0) = (t, u) := by
        intro i x h
        rcases i with _ | _ | i
        · cases h
          exact ⟨_, _, _, rfl, hC0, by decide, by decide, rfl⟩
        · cases h
          exact ⟨_, _, _, rfl, hC1, by decide, by decide, rfl⟩
        · cases h
      refine R.lcTp (xs := [.ref w0, .ref w1]) (fun i => ucM A B C (([(2, 0), (-2, 0)] : List (Int × Int)).getD i (0, 0)).1 (([(2, 0), (-2, 0)] : List (Int × Int)).getD i (0, 0)).2) (by show 2 ≤ 1000; decide) (hUO _) (fun i x H' Q' hx smx qx => ?_) (fun H5 D ys hD tp s5 nD => ?_)
      · obtain ⟨ax, t, u, rfl, sx, t2, u2, e⟩ := key i x hx
        rw [e] at qx
        have sx := sx H'
        have sP' := same_seqT smx sP
        have bt : Bd 8 t := Bd.of t2 (by decide)
        have bu : Bd 8 u := Bd.of u2 (by decide)
        clean_wf
        refine ⟨rfl, ?_⟩
        clean_wf
        exact qx _ _ sn (SqT.of ht)
      · refine kk _ _ _ (s1.trans s5) ?_ hD tp
        cases e : H D with
        | none => rfl
        | some o =>
          rw [s1 _ _ e] at nD
          cases nD
def spPositiveClasses (K : PySem.W.Frag) : Sp := fun vs H Q _ => ∃ d : Int, vs = [.int d] ∧ d < 0 ∧ -2000 ≤ d ∧
  ∀ H' l ys, Same H H' → H l = none → H' l = some (.lst ys) → Tps K H' ys (clsC d (manyC d)) → Q (.ref l) H'
theorem uPositiveClasses {K : PySem.W.Frag} {H : Hp} {Q : VK} {E : XK} {vs : List V} {d : Int} (e : vs = [.int d]) (h0 : d < 0) (h1 : -2000 ≤ d) (kk : ∀ H' l ys, Same H H' → H l = none → H' l = some (.lst ys) → Tps K H' ys (clsC d (manyC d)) → Q (.ref l) H') : spPositiveClasses K vs H Q E := ⟨d, e, h0, h1, kk⟩
theorem okPositiveClasses (T : Txt K mg fa fd) : FnOk P w K mg base CX0 3 (fa 8) (fd 8) ["d"] (spPositiveClasses K) := by
  refine T.F_positive_classes.ok scPositiveClasses (fun vs H Q E h => ?_) (fun cdv A outer s H vs Q E hr h => ?_)
  · obtain ⟨d, rfl, d0, d1, kk⟩ := h
    rfl
  · obtain ⟨d, rfl, d0, d1, kk⟩ := h
    refine ⟨_, (pss_cons (ps_set (i := 1) scPositiveClasses.nd rfl (Or.inl rfl) (pe_lst pa_nil))
      (pss_cons (ps_for PassesOwn.never rfl (pi_range2 (by rfl) T.m_range (pa_cons pe_int (pa_cons (pe_op op_add (pe_call (sp := spFloorRoot K) (okFloorRoot T) (hr.mono (by decide)) (by rfl) T.G_floor_root T.F_floor_root.kp T.B_floor_root .nil pass0 (pa_cons (pe_op op_fdiv (pe_un un_neg (pv 0)) pe_int) pa_nil)) pe_int) pa_nil))) (pg_name (i := 2) scPositiveClasses.nd rfl (Or.inl rfl))
      (pss_one (ps_for PassesOwn.never rfl (pi_range2 (by rfl) T.m_range (pa_cons (pe_op op_sub pe_int (pv 2)) (pa_cons (pe_op op_add (pv 2) pe_int) pa_nil))) (pg_name (i := 3) scPositiveClasses.nd rfl (Or.inl rfl))
        (pss_one (ps_if (pt_cmp (pc_eqI (pe_op op_mod (pe_op op_sub (pe_op op_mulW (pv 3) (pv 3)) (pv 0)) (pe_op op_mulW pe_int (pv 2))) pe_int))
          (pss_cons (ps_set (i := 4) scPositiveClasses.nd rfl (Or.inl rfl) (pe_tup (pa_cons (pv 2) (pa_cons (pv 3) (pa_cons (pe_op op_fdiv (pe_op op_sub (pe_op op_mulW (pv 3) (pv 3)) (pv 0)) (pe_op op_mulW pe_int (pv 2))) pa_nil)))))
            (pss_one (ps_if (PW.pt (pw_and (pt_val (pe_call (sp := spIsReduced K) (okIsReduced T) (hr.mono (by decide)) (by rfl) T.G_is_reduced T.F_is_reduced.kp T.B_is_reduced .nil pass0 (pa_cons (pv 4) pa_nil))) (pw_and1 (pt_cmp (pc_eqI (pe_call (sp := spContent K) (okContent T) hr (by rfl) T.G_content T.F_content.kp T.B_content .nil pass0 (pa_cons (pv 4) pa_nil)) pe_int)))))
            (pss_one (ps_expr (pe_bm PySem.F.plainAttrs_list PySem.F.slot_list_append PySem.F.type_list_append mt_append (pv 1) (pa_cons (pv 4) pa_nil))))
            pss_nil)))
          pss_nil)))))
      (pss_one (ps_ret (pv 1))))), ?_⟩
    have q0 : 0 ≤ (-d) / 3 := by omega
    obtain ⟨r0, r1, r2⟩ := rootI_spec q0
    have r3 : rootI ((-d) / 3) ≤ 26 := by
      by_cases z : rootI ((-d) / 3) ≤ 26
      · exact z
      · have := Int.mul_le_mul (show 27 ≤ rootI ((-d) / 3) by omega) (show 27 ≤ rootI ((-d) / 3) by omega) (by omega) (by omega)
        omega
    have bq : ((-d) / 3).natAbs < 1152921504606846976 := by omega
    have bd : Bd 60 d := Bd.om (by omega)
    have hM : manyC d = (rootI ((-d) / 3) + 1 - 1).toNat := by
      unfold manyC
      congr 1
      omega
    clean_wf
    rw [hM] at kk
    generalize hR : rootI ((-d) / 3) = R0 at *
    have hl := ht
    have nD := nn
    have s1 := sn
    clear sn ht nn
    generalize tn = tF at *
    generalize HN = H1 at *
    refine R.forN (lo := 1) (n := (R0 + 1 - 1).toNat) (fun i σ H' => ∃ (x2 x3 x4 : Option V) (ys : List V), σ = [some (.int d), some (.ref tF), x2, x3, x4] ∧ Same H H' ∧ H' tF = some (.lst ys) ∧ Tps K H' ys (clsC d i))
      ⟨_, _, _, [], rfl, s1, hl, .nil⟩ (fun i σ H' hi hPv => ?_) (fun σ H' hPv => ?_)
    · obtain ⟨x2, x3, x4, ys, rfl, sm, hl, tp⟩ := hPv
      have hi26 : i ≤ 25 := by omega
      rw [clsC_succ]
      have hw : (1 + (i : Int) + 1 - (1 - (1 + (i : Int)))).toNat = 2 * (i + 1) := by omega
      have a1 : 1 ≤ 1 + (i : Int) := by omega
      have a2 : 1 + (i : Int) ≤ 26 := by omega
      generalize 1 + (i : Int) = a at *
      have ba : Bd 60 a := Bd.om (by omega)
      clean_wf
      have hcl := clsC_len d i
      have hc2 : i * (i + 1) ≤ 25 * 26 := Nat.mul_le_mul hi26 (by omega)
      rw [hw]
      refine R.forN (lo := 1 - a) (n := 2 * (i + 1)) (fun j σ H' => ∃ (x3 x4 : Option V) (ys : List V), σ = [some (.int d), some (.ref tF), some (.int a), x3, x4] ∧ Same H H' ∧ H' tF = some (.lst ys) ∧ Tps K H' ys (clsC d i ++ rowC d a j))
        ⟨_, _, ys, rfl, sm, hl, by rw [show rowC d a 0 = [] from rfl, List.append_nil]; exact tp⟩ (fun j σ H' hj hPv => ?_) (fun σ H' hPv => ?_)
      · obtain ⟨x3, x4, ys, rfl, sm, hl, tp⟩ := hPv
        rw [rowC_succ, ← List.append_assoc]
        have hlen := tp.len
        rw [List.length_append] at hlen
        have hrl := rowC_len d a j
        have b1 : -26 ≤ 1 - a + (j : Int) := by omega
        have b2 : 1 - a + (j : Int) ≤ 26 := by omega
        generalize 1 - a + (j : Int) = b at *
        have bb : Bd 60 b := Bd.om (by omega)
        have cd9 : CDiv (b * b - d) (4 * a) := ⟨by omega, by omega⟩
        clean_wf
        refine way2 (fun z => ?_) (fun z => ?_)
        · skip
          clean_wf
          generalize hc : (b * b - d) / (4 * a) = c at *
          by_cases z2 : RedD a b c
          · rw [decide_eq_true z2]
            clean_wf
            by_cases z3 : gL [a, b, c] = 1
            · rw [decide_eq_true z3]
              have hcell : cellC d a b = [[a, b, c]] := by
                unfold cellC okC
                rw [hc, decide_eq_true z, decide_eq_true z2, decide_eq_true z3]
                rfl
              rw [hcell]
              clean_wf
              have hln := sn _ _ hl
              refine R.bmT hln ?_
              clean_wf
              refine R.app hln (by omega) (fun H5 e5 h5 => ?_)
              refine ⟨_, _, ys ++ [.ref tn], rfl, ?_, h5, ?_⟩
              · rw [e5]
                exact same_mut (sm.trans sn) nD
              · rw [e5]
                exact ((tp.same sn).kt fun c zs h => upd_seqT hln h).snoc (upd_seqT hln (SqT.of ht))
            · rw [decide_eq_false z3]
              have hcell : cellC d a b = [] := by
                unfold cellC okC
                rw [hc, decide_eq_true z, decide_eq_true z2, decide_eq_false z3]
                rfl
              rw [hcell, List.append_nil]
              clean_wf
              exact ⟨_, _, ys, rfl, sm.trans sn, sn _ _ hl, tp.same sn⟩
          · rw [decide_eq_false z2]
            have hcell : cellC d a b = [] := by
              unfold cellC okC
              rw [hc, decide_eq_true z, decide_eq_false z2]
              rfl
            rw [hcell, List.append_nil]
            clean_wf
            exact ⟨_, _, ys, rfl, sm.trans sn, sn _ _ hl, tp.same sn⟩
        · have hcell : cellC d a b = [] := by
            unfold cellC okC
            rw [decide_eq_false z]
            rfl
          rw [hcell, List.append_nil]
          clean_wf
          exact ⟨_, _, ys, rfl, sm, hl, tp⟩
      · obtain ⟨x3, x4, ys, rfl, sm, hl, tp⟩ := hPv
        exact ⟨_, _, _, ys, rfl, sm, hl, tp⟩
    · obtain ⟨x2, x3, x4, ys, rfl, sm, hl, tp⟩ := hPv
      clean_wf
      refine kk _ _ _ sm ?_ hl tp
      cases e : H tF with
      | none => rfl
      | some o =>
        rw [e] at nD
        cases nD
def spLawCell (K : PySem.W.Frag) : Sp := fun vs H Q _ => ∃ (l : Addr) (ns : List Int) (j : Nat), vs = [.ref l, .int (j : Int)] ∧ SqL K H l (ns.map V.int) ∧ ∀ v : Int, Q (.int v) H
theorem okLawCell (T : Txt K mg fa fd) : FnOk P w K mg base CX0 1 (fa 9) (fd 9) ["script", "k"] (spLawCell K) := by
  refine T.F__law_cell.ok scLawCell (fun vs H Q E h => ?_) (fun cdv A outer s H vs Q E hr h => ?_)
  · obtain ⟨l, ns, j, rfl, hS, q⟩ := h
    rfl
  · obtain ⟨l, ns, j, rfl, hS, q⟩ := h
    refine ⟨_, (pss_cons (ps_if (pt_cmp (pc_lt (pv 1) (pe_callB (lenQ K) (by rfl) T.m_len (by decide +kernel) (pa_cons (pv 0) pa_nil))))
      (pss_one (ps_ret (pe_ix (ixL K) (pv 0) (pv 1) (fun _ _ => rfl))))
      pss_nil)
      (pss_one (ps_ret pe_int))), ?_⟩
    refine ⟨_, rfl, _, rfl, _, _, rfl, .inl hS, _, _, rfl, rfl, _, rfl, ite2 (fun e => ?_) (fun e => ?_)⟩
    · have e1 : (j : Int) < ((ns.map V.int).length : Int) := of_decide_eq_true e
      have hj : j < ns.length := by
        rw [List.length_map] at e1
        omega
      exact ⟨_, rfl, _, rfl, _, _, _, _, rfl, rfl, hS, atI_nat (by rw [List.getElem?_map, List.getElem?_eq_getElem hj]; rfl), q _⟩
    · exact q 0
def spLawNumbers (K : PySem.W.Frag) : Sp := fun vs H Q _ => ∃ (c : Int) (m : Nat), vs = [.int c, .int (m : Int)] ∧ m ≤ 100 ∧
  ∀ H' p (ns : List Int), Same H H' → H p = none → H' p = some (.lst (ns.map V.int)) → ns.length = m → (∀ n ∈ ns, 0 ≤ n ∧ n < 1000) → Q (.ref p) H'
theorem okLawNumbers (T : Txt K mg fa fd) : FnOk P w K mg base CX0 1 (fa 10) (fd 10) ["cell", "many"] (spLawNumbers K) := by
  refine T.F__law_numbers.ok scLawNumbers (fun vs H Q E h => ?_) (fun cdv A outer s H vs Q E hr h => ?_)
  · obtain ⟨c, m, rfl, hm, q⟩ := h
    rfl
  · obtain ⟨c, m, rfl, hm, q⟩ := h
    refine ⟨_, (pss_cons (ps_set (i := 2) scLawNumbers.nd rfl (Or.inl rfl) (pe_callB (absQ K) (by rfl) T.m_abs (by decide +kernel) (pa_cons (pv 0) pa_nil)))
      (pss_cons (ps_set (i := 3) scLawNumbers.nd rfl (Or.inl rfl) (pv 2))
      (pss_cons (ps_set (i := 4) scLawNumbers.nd rfl (Or.inl rfl) (pe_lst pa_nil))
      (pss_cons (ps_for PassesOwn.never rfl (pi_range1 (by rfl) T.m_range (pa_cons (pv 1) pa_nil)) (pg_name (i := 5) scLawNumbers.nd rfl (Or.inl rfl))
      (pss_one (ps_if (PW.pt (pw_and (pt_cmp (pc_ge (pv 3) (pe_op op_pow pe_int pe_int))) (pw_and1 (pt_cmp (pc_gt (pv 2) pe_int)))))
        (pss_cons (ps_expr (pe_bm PySem.F.plainAttrs_list PySem.F.slot_list_append PySem.F.type_list_append mt_append (pv 4) (pa_cons (pe_op op_mod (pe_callTy (intQ K) (by rfl) T.m_int (by decide +kernel) (pa_cons (pv 2) pa_nil)) pe_int) pa_nil)))
          (pss_one (ps_set (i := 2) scLawNumbers.nd rfl (Or.inl rfl) (pe_op op_fdiv (pv 2) pe_int))))
        (pss_cons (ps_set (i := 6) scLawNumbers.nd rfl (Or.inl rfl) (pe_op op_mod (pe_callTy (intQ K) (by rfl) T.m_int (by decide +kernel) (pa_cons (pe_op op_add (pe_op op_add (pe_op op_mul (pv 3) pe_int) (pe_op op_mul (pv 5) pe_int)) pe_int) pa_nil)) pe_int))
          (pss_cons (ps_set (i := 6) scLawNumbers.nd rfl (Or.inl rfl) (pe_op op_mod (pe_callTy (intQ K) (by rfl) T.m_int (by decide +kernel) (pa_cons (pe_op op_add (pe_op op_add (pe_op op_mul (pv 6) (pv 6)) (pe_op op_mul pe_int (pv 5))) pe_int) pa_nil)) pe_int))
          (pss_one (ps_expr (pe_bm PySem.F.plainAttrs_list PySem.F.slot_list_append PySem.F.type_list_append mt_append (pv 4) (pa_cons (pe_op op_mod (pe_callTy (intQ K) (by rfl) T.m_int (by decide +kernel) (pa_cons (pe_op op_fdiv (pv 6) pe_int) pa_nil)) pe_int) pa_nil)))))))))
      (pss_one (ps_ret (pv 4))))))), ?_⟩
    refine ⟨_, rfl, _, rfl, _, rfl, Nat.zero_le _, fun o no => ?_⟩
    refine ⟨_, rfl, _, rfl, by omega, by omega, for_range (lo := 0) (n := m) (fun i σ H' => ∃ (rest span : Int) (x5 x6 : Option V) (ns : List Int), σ = [some (.int c), some (.int (m : Int)), some (.int rest), some (.int span), some (.ref o), x5, x6] ∧ Same H H' ∧ H' o = some (.lst (ns.map V.int)) ∧ ns.length = i ∧ ∀ n ∈ ns, 0 ≤ n ∧ n < 1000)
      ⟨_, _, _, _, [], rfl, same_upd no, upd_same, rfl, fun n h => nomatch h⟩ (fun i σ H' hi ⟨rest, span, x5, x6, ns, hσ, hs, ho, hl, hb⟩ => ?_) (fun σ H' ⟨rest, span, x5, x6, ns, hσ, hs, ho, hl, hb⟩ => ?_)⟩
    · subst hσ
      have sz : (ns.map V.int).length < sizeLine := by
        rw [List.length_map]
        exact small1000 (by omega)
      have app : ∀ r : Int, 0 ≤ r → r < 1000 → (upd H' o (.lst (ns.map V.int ++ [V.int r]))) o = some (.lst ((ns ++ [r]).map V.int)) ∧ (ns ++ [r]).length = i + 1 ∧ ∀ n ∈ ns ++ [r], 0 ≤ n ∧ n < 1000 := fun r h0 h1 => by
        refine ⟨by rw [upd_same, List.map_append]; rfl, by rw [List.length_append, hl]; rfl, fun n hn => ?_⟩
        rcases List.mem_append.mp hn with hn | hn
        · exact hb n hn
        · rw [List.mem_singleton.mp hn]
          exact ⟨h0, h1⟩
      refine ⟨_, rfl, _, _, rfl, rfl, ⟨by decide, by decide, by decide⟩, _, _, rfl, rfl, _, rfl, ?_⟩
      have tl : ∀ (D : Ends) (rest' : Int) (x5' x6' : Option V) (r : Int), 0 ≤ r → r < 1000 → (∀ σ' H2, (∃ (rest span : Int) (x5 x6 : Option V) (ns : List Int), σ' = [some (.int c), some (.int (m : Int)), some (.int rest), some (.int span), some (.ref o), x5, x6] ∧ Same H H2 ∧ H2 o = some (.lst (ns.map V.int)) ∧ ns.length = i + 1 ∧ ∀ n ∈ ns, 0 ≤ n ∧ n < 1000) → D.nx σ' H2) → D.nx [some (.int c), some (.int (m : Int)), some (.int rest'), some (.int span), some (.ref o), x5', x6'] (upd H' o (.lst (ns.map V.int ++ [V.int r]))) := fun D rest' x5' x6' r h0 h1 k => by
        obtain ⟨a1, a2, a3⟩ := app r h0 h1
        exact k _ _ ⟨rest', span, x5', x6', _, rfl, same_mut hs no, a1, a2, a3⟩
      have m1 : ∀ z : Int, 0 ≤ z % 1000 ∧ z % 1000 < 1000 := fun z => by omega
      have m2 : ∀ z : Int, 0 ≤ z % 2147483647 ∧ z % 2147483647 < 2147483647 := fun z => by omega
      refine ite2 (fun e => ?_) (fun e => ?_)
      · refine ⟨_, rfl, _, _, rfl, rfl, _, rfl, ite2 (fun e => ?_) (fun e => ?_)⟩
        · refine ⟨_, rfl, .inl ⟨rfl, _, SqL.of ho⟩, _, rfl, .inl ⟨_, rfl, _, _, rfl, rfl, by show (0 : Int) < 1000; decide, _, _, _, rfl, rfl, ho, sz, ?_⟩⟩
          refine ⟨_, rfl, _, _, rfl, rfl, ⟨by decide, by decide⟩, ?_⟩
          obtain ⟨a1, a2, a3⟩ := app (rest % 1000) (m1 _).1 (m1 _).2
          exact ⟨_, _, _, _, _, rfl, same_mut hs no, a1, a2, a3⟩
        · refine ⟨_, rfl, _, _, rfl, rfl, .inr ⟨by decide, by decide⟩, _, rfl, _, _, rfl, rfl, .inr ⟨by decide, by decide⟩, _, _, rfl, rfl, _, _, rfl, rfl, .inl ⟨_, rfl, _, _, rfl, rfl, by show (0 : Int) < 2147483647; decide, ?_⟩⟩
          refine ⟨_, rfl, _, rfl, _, _, rfl, rfl, .inl ?_, _, rfl, _, _, rfl, rfl, .inl ⟨by decide, by decide⟩, _, _, rfl, rfl, _, _, rfl, rfl, .inl ⟨_, rfl, _, _, rfl, rfl, by show (0 : Int) < 2147483629; decide, ?_⟩⟩
          · have h := m2 (span * 48271 + (0 + (i : Int)) * 69621 + 11)
            omega
          refine ⟨_, rfl, .inl ⟨rfl, _, SqL.of ho⟩, _, rfl, _, _, rfl, rfl, ⟨by decide, by decide⟩, .inl ⟨_, rfl, _, _, rfl, rfl, by show (0 : Int) < 1000; decide, _, _, _, rfl, rfl, ho, sz, ?_⟩⟩
          obtain ⟨a1, a2, a3⟩ := app _ (m1 _).1 (m1 _).2
          exact ⟨_, _, _, _, _, rfl, same_mut hs no, a1, a2, a3⟩
      · refine iteF ?_
        refine ⟨_, rfl, _, _, rfl, rfl, .inr ⟨by decide, by decide⟩, _, rfl, _, _, rfl, rfl, .inr ⟨by decide, by decide⟩, _, _, rfl, rfl, _, _, rfl, rfl, .inl ⟨_, rfl, _, _, rfl, rfl, by show (0 : Int) < 2147483647; decide, ?_⟩⟩
        refine ⟨_, rfl, _, rfl, _, _, rfl, rfl, .inl ?_, _, rfl, _, _, rfl, rfl, .inl ⟨by decide, by decide⟩, _, _, rfl, rfl, _, _, rfl, rfl, .inl ⟨_, rfl, _, _, rfl, rfl, by show (0 : Int) < 2147483629; decide, ?_⟩⟩
        · have h := m2 (span * 48271 + (0 + (i : Int)) * 69621 + 11)
          omega
        refine ⟨_, rfl, .inl ⟨rfl, _, SqL.of ho⟩, _, rfl, _, _, rfl, rfl, ⟨by decide, by decide⟩, .inl ⟨_, rfl, _, _, rfl, rfl, by show (0 : Int) < 1000; decide, _, _, _, rfl, rfl, ho, sz, ?_⟩⟩
        obtain ⟨a1, a2, a3⟩ := app _ (m1 _).1 (m1 _).2
        exact ⟨_, _, _, _, _, rfl, same_mut hs no, a1, a2, a3⟩
    · subst hσ
      exact ⟨_, rfl, q _ _ ns hs no ho hl hb⟩
def spLawState (K : PySem.W.Frag) : Sp := fun vs H Q _ => ∃ (l : Addr) (ns : List Int), vs = [.ref l] ∧ SqL K H l (ns.map V.int) ∧ ∀ H' p a, Same H H' → Dw H' p a 0 → Q (.ref p) H'
theorem okLawState (T : Txt K mg fa fd) : FnOk P w K mg base CX0 2 (fa 11) (fd 11) ["script"] (spLawState K) := by
  refine T.F__law_state.ok scLawState (fun vs H Q E h => ?_) (fun cdv A outer s H vs Q E hr h => ?_)
  · obtain ⟨l, ns, rfl, hS, q⟩ := h
    rfl
  · obtain ⟨l, ns, rfl, hS, q⟩ := h
    refine ⟨_, (pss_cons (ps_set (i := 1) scLawState.nd rfl (Or.inl rfl) (pe_lst pa_nil))
      (pss_cons (ps_for PassesOwn.never rfl (pi_range1 (by rfl) T.m_range (pa_cons pe_int pa_nil)) (pg_name (i := 2) scLawState.nd rfl (Or.inl rfl))
      (pss_one (ps_set (i := 1) scLawState.nd rfl (Or.inl rfl) (pe_op op_cat (pv 1) (pe_call (sp := spLawNumbers K) (okLawNumbers T) hr (by rfl) T.G__law_numbers T.F__law_numbers.kp T.B__law_numbers .nil pass0 (pa_cons (pe_op op_add (pe_callB (absQ K) (by rfl) T.m_abs (by decide +kernel) (pa_cons (pe_call (sp := spLawCell K) (okLawCell T) hr (by rfl) T.G__law_cell T.F__law_cell.kp T.B__law_cell .nil pass0 (pa_cons (pv 0) (pa_cons (pv 2) pa_nil))) pa_nil)) (pe_op op_mul pe_int (pv 2))) (pa_cons pe_int pa_nil)))))))
      (pss_one (ps_ret (pe_lst (pa_cons (pv 1) (pa_cons pe_int pa_nil))))))), ?_⟩
    refine ⟨Nat.zero_le _, fun o no => ?_⟩
    refine ⟨3, rfl, by decide, by decide, for_range (lo := 0) (n := 3) (fun i σ H' => ∃ (o : Addr) (x2 : Option V) (ms : List Int), σ = [some (.ref l), some (.ref o), x2] ∧ Same H H' ∧ H' o = some (.lst (ms.map V.int)) ∧ ms.length = 40 * i ∧ ∀ n ∈ ms, 0 ≤ n ∧ n < 1000)
      ⟨o, none, [], rfl, same_upd no, upd_same, rfl, fun n h => nomatch h⟩ (fun i σ H' hi ⟨o, x2, ms, hσ, hs, ho, hl, hb⟩ => ?_) (fun σ H' ⟨o, x2, ms, hσ, hs, ho, hl, hb⟩ => ?_)⟩
    · subst hσ
      refine ⟨_, rfl, _, rfl, _, rfl, l, ns, i, ?_, hs.seq hS, fun v => ⟨_, rfl, _, rfl, _, _, rfl, rfl, .inl ⟨by decide, by decide⟩, _, _, rfl, rfl, _, 40, rfl, by decide, fun H2 u ks s2 nu hu kl kb => ?_⟩⟩
      · exact congrArg (fun t : Int => [V.ref l, V.int t]) (Int.zero_add _)
      refine ⟨_, _, _, _, rfl, rfl, s2 _ _ ho, hu, ?_, fun w nw => ?_⟩
      · rw [List.length_map, List.length_map]
        exact small200 (by omega)
      refine ⟨w, _, ms ++ ks, rfl, (hs.trans s2).trans (same_upd nw), ?_, ?_, fun n hn => ?_⟩
      · rw [upd_same, List.map_append]
      · rw [List.length_append]
        omega
      · rcases List.mem_append.mp hn with hn | hn
        · exact hb n hn
        · exact kb n hn
    · subst hσ
      refine ⟨_, rfl, by show 2 ≤ sizeLine; decide, fun p np => ?_⟩
      refine q _ p o (hs.trans (same_upd np)) ⟨0, ms, Nat.le_refl 0, ne_of_none ho np, upd_same, ?_, hl, hb⟩
      rw [upd_ne (ne_of_none ho np)]
      exact ho
def spLawNext (_ : PySem.W.Frag) : Sp := fun vs H Q _ => ∃ (p a : Addr) (many : Int) (N : Nat), vs = [.ref p, .int many] ∧ Dw H p a N ∧ N < 1000000000 ∧ 0 < many ∧
  ∀ r H', 0 ≤ r → r < many → Dw H' p a (N + 1) → (∀ b, b ≠ p → H' b = H b) → Q (.int r) H'
theorem uLawNext {K : PySem.W.Frag} {H : Hp} {Q : VK} {E : XK} {vs : List V} {p a : Addr} {N : Nat} {many : Int} (e : vs = [.ref p, .int many]) (d : Dw H p a N) (hN : N < 1000000000) (hm : 0 < many) (q : ∀ r H', 0 ≤ r → r < many → Dw H' p a (N + 1) → Kp p H H' → Q (.int r) H') : spLawNext K vs H Q E :=
  ⟨p, a, many, N, e, d, hN, hm, fun r H' h0 h1 d' f => q r H' h0 h1 d' (frm_kp f)⟩
theorem okLawNext (T : Txt K mg fa fd) : FnOk P w K mg base CX0 1 (fa 12) (fd 12) ["state", "many"] (spLawNext K) := by
  refine T.F__law_next.ok scLawNext (fun vs H Q E h => ?_) (fun cdv A outer s H vs Q E hr h => ?_)
  · obtain ⟨p, a, many, N, rfl, ⟨m, ns, hm, hap, hp, ha, hl, hb⟩, hN, hmany, q⟩ := h
    rfl
  · obtain ⟨p, a, many, N, rfl, ⟨m, ns, hm, hap, hp, ha, hl, hb⟩, hN, hmany, q⟩ := h
    refine ⟨_, (pss_cons (ps_asg (pe_op op_add (pe_ix (ixL K) (pv 0) pe_int (fun _ _ => rfl)) pe_int) (pg_sub (pv 0) pe_int set_list))
      (pss_cons (ps_set (i := 2) scLawNext.nd rfl (Or.inl rfl) (pe_op op_add (pe_ix (ixL K) (pe_ix (ixL K) (pv 0) pe_int (fun _ _ => rfl)) (pe_op op_mod (pe_callTy (intQ K) (by rfl) T.m_int (by decide +kernel) (pa_cons (pe_op op_mul (pe_ix (ixL K) (pv 0) pe_int (fun _ _ => rfl)) pe_int) pa_nil)) (pe_callB (lenQ K) (by rfl) T.m_len (by decide +kernel) (pa_cons (pe_ix (ixL K) (pv 0) pe_int (fun _ _ => rfl)) pa_nil))) (fun _ _ => rfl)) (pe_op op_mul (pe_op op_mul pe_int (pe_ix (ixL K) (pv 0) pe_int (fun _ _ => rfl))) (pe_op op_add pe_int (pe_op op_fdiv (pe_ix (ixL K) (pv 0) pe_int (fun _ _ => rfl)) (pe_callB (lenQ K) (by rfl) T.m_len (by decide +kernel) (pa_cons (pe_ix (ixL K) (pv 0) pe_int (fun _ _ => rfl)) pa_nil)))))))
      (pss_one (ps_ret (pe_op op_mod (pe_callTy (intQ K) (by rfl) T.m_int (by decide +kernel) (pa_cons (pv 2) pa_nil)) (pv 1)))))), ?_⟩
    have eS : SqL K H p [.ref a, .int (m : Int)] := SqL.of hp
    refine ⟨_, rfl, _, _, _, _, rfl, rfl, eS, atI_nat (j := 1) rfl, _, _, rfl, rfl, _, rfl, _, _, _, 1, rfl, rfl, hp, rfl, ?_⟩
    have h1p : (upd H p (.lst [.ref a, .int ((m : Int) + 1)])) p = some (.lst [.ref a, .int ((m : Int) + 1)]) := upd_same
    have h1a : (upd H p (.lst [.ref a, .int ((m : Int) + 1)])) a = some (.lst (ns.map V.int)) := by
      rw [upd_ne hap]
      exact ha
    have fr : ∀ b, b ≠ p → (upd H p (.lst [.ref a, .int ((m : Int) + 1)])) b = H b := fun b hb => upd_ne hb
    show tSeq _ _ _ _ (upd H p (.lst [.ref a, .int ((m : Int) + 1)]))
    generalize upd H p (.lst [.ref a, .int ((m : Int) + 1)]) = H1 at h1p h1a fr
    have S1 : SqL K H1 p [.ref a, .int ((m : Int) + 1)] := SqL.of h1p
    have A1 : SqL K H1 a (ns.map V.int) := SqL.of h1a
    have hl2 : ((ns.map V.int).length : Int) = 120 := by
      rw [List.length_map, hl]
      rfl
    obtain ⟨x, hx, ex⟩ := at_int (ns := ns) (r := ((m : Int) + 1) * 7 % 120) (by omega) (by omega)
    refine ⟨_, rfl, _, _, _, _, rfl, rfl, S1, atI_nat (j := 0) rfl, _, rfl, _, _, _, _, rfl, rfl, S1, atI_nat (j := 1) rfl, _, _, rfl, rfl, .inr ⟨by decide, by decide⟩, .inl ⟨_, rfl, _, rfl, _, _, _, _, rfl, rfl, S1, atI_nat (j := 0) rfl, _, _, rfl, .inl A1, ?_⟩⟩
    rw [hl2]
    refine ⟨_, _, rfl, rfl, by show (0 : Int) < 120; decide, _, _, _, _, rfl, rfl, A1, ex, ?_⟩
    refine ⟨_, rfl, _, _, _, _, rfl, rfl, S1, atI_nat (j := 1) rfl, _, _, rfl, rfl, .inl ⟨by decide, by decide⟩, _, rfl, _, _, _, _, rfl, rfl, S1, atI_nat (j := 1) rfl, _, rfl, _, _, _, _, rfl, rfl, S1, atI_nat (j := 0) rfl, _, _, rfl, .inl A1, ?_⟩
    rw [hl2]
    refine ⟨_, _, rfl, rfl, ⟨by decide, by decide⟩, _, _, rfl, rfl, _, _, rfl, rfl, .inl ⟨by omega, by omega⟩, _, _, rfl, rfl, ?_⟩
    refine ⟨_, rfl, .inl ⟨_, rfl, _, rfl, _, _, rfl, rfl, hmany, ?_⟩⟩
    exact q _ _ (Int.emod_nonneg _ (by omega)) (Int.emod_lt_of_pos _ hmany) ⟨m + 1, ns, by omega, hap, h1p, h1a, hl, hb⟩ fr
def spLawMeasure (_ : PySem.W.Frag) : Sp := fun vs H Q _ => ∃ a b : Int, vs = [.int a, .int b] ∧ Bd 2000 a ∧ Bd 2000 b ∧ Q (.int (gI a b)) H
theorem uLawMeasure {K : PySem.W.Frag} {H : Hp} {Q : VK} {E : XK} {vs : List V} {a b : Int} {n m : Nat} (e : vs = [.int a, .int b]) (h1 : Bd n a) (h2 : Bd m b) (l1 : Nat.ble n 2000 = true) (l2 : Nat.ble m 2000 = true) (kk : Q (.int (gI a b)) H) : spLawMeasure K vs H Q E := ⟨a, b, e, bdm h1 l1, bdm h2 l2, kk⟩
theorem okLawMeasure (T : Txt K mg fa fd) : FnOk P w K mg base CX0 1 (fa 13) (fd 13) ["a", "b"] (spLawMeasure K) := by
  refine T.F__law_measure.ok scLawMeasure (fun vs H Q E h => ?_) (fun cdv A outer s H vs Q E hr h => ?_)
  · obtain ⟨a, b, rfl, ha, hb, q⟩ := h
    rfl
  · obtain ⟨a, b, rfl, ha, hb, q⟩ := h
    refine ⟨_, (pss_cons (ps_set (i := 0) scLawMeasure.nd rfl (Or.inl rfl) (pe_callB (absQ K) (by rfl) T.m_abs (by decide +kernel) (pa_cons (pv 0) pa_nil)))
      (pss_cons (ps_set (i := 1) scLawMeasure.nd rfl (Or.inl rfl) (pe_callB (absQ K) (by rfl) T.m_abs (by decide +kernel) (pa_cons (pv 1) pa_nil)))
      (pss_cons (ps_for PassesOwn.never rfl (pi_range1 (by rfl) T.m_range (pa_cons pe_int pa_nil)) (pg_name (i := 2) scLawMeasure.nd rfl (Or.inl rfl))
      (pss_cons (ps_if (pt_cmp (pc_eqI (pv 1) pe_int))
        (pss_one (ps_ret (pv 0)))
        pss_nil)
        (pss_one (ps_par (i := 0) (j := 1) (by rfl) scLawMeasure.nd rfl rfl (by decide) rfl rfl (pa_cons (pv 1) (pa_cons (pe_op op_mod (pv 0) (pv 1)) pa_nil)) (by rfl)))))
      (pss_one (ps_ret (pv 0)))))), ?_⟩
    have hP : a.natAbs * b.natAbs * 2 < 2 ^ 4900 := by
      have h : a.natAbs * b.natAbs < 2 ^ (2000 + 2000) := by
        rw [Nat.pow_add]
        exact Nat.mul_lt_mul'' ha hb
      have e : (2 : Nat) ^ 4900 = 2 ^ (2000 + 2000) * 2 ^ 900 := Nat.pow_add 2 (2000 + 2000) 900
      rw [e]
      exact Nat.mul_lt_mul'' h (by decide)
    clean_wf
    refine R.forN (lo := 0) (n := Int.toNat 5000) (fun i σ H' => ∃ (x y : Nat) (x2 : Option V), σ = [some (.int (x : Int)), some (.int (y : Int)), x2] ∧ H' = H ∧ ((Nat.gcd x y : Nat) : Int) = gI a b ∧ ((i = 0 ∧ x * y * 2 < 2 ^ 4900) ∨ (y ≤ x ∧ x * y * 2 ^ i < 2 ^ 4900)))
      ⟨a.natAbs, b.natAbs, _, rfl, rfl, rfl, .inl ⟨rfl, hP⟩⟩ (fun i σ H' hi ⟨x, y, x2, e1, e2, hg, hz⟩ => ?_) (fun σ H' ⟨x, y, x2, e1, e2, hg, hz⟩ => ?_)
    · subst e1 e2
      clean_wf
      refine way2 (fun h => ?_) (fun h => ?_)
      · have hy : y = 0 := by omega
        rw [hy, Nat.gcd_zero_right] at hg
        rw [← hg] at q
        clean_wf
      · have hy : y ≠ 0 := by omega
        obtain ⟨s1, s2⟩ := em_step hy hz
        clean_wf
        refine ⟨y, x % y, _, rfl, rfl, ?_, .inr ⟨s1, s2⟩⟩
        rw [← hg, Nat.gcd_comm y, ← Nat.gcd_rec, Nat.gcd_comm]
    · subst e1 e2
      have e : ((x : Nat) : Int) = gI a b := by
        have h := em_end5 (G := Nat.gcd x y) rfl hz (Nat.pow_le_pow_right (by decide) (by decide))
        rw [← hg, ← h]
      rw [← e] at q
      clean_wf
def spLawWorth (K : PySem.W.Frag) : Sp := fun vs H Q _ => ∃ (aform : Addr) (a b c x y : Int) (N : Nat), vs = [.ref aform, .int x, .int y] ∧ SqT K H aform [.int a, .int b, .int c] ∧ Bd N a ∧ Bd N b ∧ Bd N c ∧ Bd N x ∧ Bd N y ∧ N ≤ 300000 ∧ (Q (.int (a * x * x + b * x * y + c * y * y)) H)
theorem uLawWorth {K : PySem.W.Frag} {H : Hp} {Q : VK} {E : XK} {vs : List V} {aform : Addr} {a b c x y : Int} {n0 n1 n2 n3 n4 : Nat} (hev : vs = [.ref aform, .int x, .int y]) (s0 : SqT K H aform [.int a, .int b, .int c]) (b0 : Bd n0 a) (b1 : Bd n1 b) (b2 : Bd n2 c) (b3 : Bd n3 x) (b4 : Bd n4 y) (hll : (n0 + n1 + n2 + n3 + n4 ≤ 300000) = True) (kk : Q (.int (a * x * x + b * x * y + c * y * y)) H) : spLawWorth K vs H Q E :=
  have hll := of_eq_true hll
  ⟨aform, a, b, c, x, y, n0 + n1 + n2 + n3 + n4, hev, s0, b0.mono (by omega), b1.mono (by omega), b2.mono (by omega), b3.mono (by omega), b4.mono (by omega), hll, kk⟩
theorem okLawWorth (T : Txt K mg fa fd) : FnOk P w K mg base CX0 1 (fa 14) (fd 14) ["form", "x", "y"] (spLawWorth K) := by
  refine T.F__law_worth.ok scLawWorth (fun vs H Q E h => ?_) (fun cdv A outer s H vs Q E hr h => ?_)
  · obtain ⟨aform, a, b, c, x, y, N, rfl, h_aform, b_a, b_b, b_c, b_x, b_y, hN, kk⟩ := h
    rfl
  · obtain ⟨aform, a, b, c, x, y, N, rfl, h_aform, b_a, b_b, b_c, b_x, b_y, hN, kk⟩ := h
    refine ⟨_, (pss_one (ps_ret (pe_op op_add (pe_op op_add (pe_op op_mulW (pe_op op_mulW (pe_ix (ixT K) (pv 0) pe_int (fun _ _ => rfl)) (pv 1)) (pv 1)) (pe_op op_mulW (pe_op op_mulW (pe_ix (ixT K) (pv 0) pe_int (fun _ _ => rfl)) (pv 1)) (pv 2))) (pe_op op_mulW (pe_op op_mulW (pe_ix (ixT K) (pv 0) pe_int (fun _ _ => rfl)) (pv 2)) (pv 2))))), ?_⟩
    clean_wf
    all_goals first | omega | exact kk | (refine kk _ _ ?_ (by assumption); (repeat' (first | with_reducible exact Same.refl _ | with_reducible assumption | ((with_reducible apply sameB); with_reducible assumption))))
def spLawAct (K : PySem.W.Frag) : Sp := fun vs H Q _ => ∃ (aform am : Addr) (a b c p q r s : Int) (N : Nat), vs = [.ref aform, .ref am] ∧ SqT K H aform [.int a, .int b, .int c] ∧ SqT K H am [.int p, .int q, .int r, .int s] ∧ Bd N a ∧ Bd N b ∧ Bd N c ∧ Bd N p ∧ Bd N q ∧ Bd N r ∧ Bd N s ∧ N ≤ 59000 ∧ (R.Nw H [.int (a * p * p + b * p * r + c * r * r), .int (2 * a * p * q + b * (p * s + q * r) + 2 * c * r * s), .int (a * q * q + b * q * s + c * s * s)] Q)
theorem uLawAct {K : PySem.W.Frag} {H : Hp} {Q : VK} {E : XK} {vs : List V} {aform am : Addr} {a b c p q r s : Int} {n0 n1 n2 n3 n4 n5 n6 : Nat} (hev : vs = [.ref aform, .ref am]) (s0 : SqT K H aform [.int a, .int b, .int c]) (s1 : SqT K H am [.int p, .int q, .int r, .int s]) (b0 : Bd n0 a) (b1 : Bd n1 b) (b2 : Bd n2 c) (b3 : Bd n3 p) (b4 : Bd n4 q) (b5 : Bd n5 r) (b6 : Bd n6 s) (hll : (n0 + n1 + n2 + n3 + n4 + n5 + n6 ≤ 59000) = True) (kk : R.Nw H [.int (a * p * p + b * p * r + c * r * r), .int (2 * a * p * q + b * (p * s + q * r) + 2 * c * r * s), .int (a * q * q + b * q * s + c * s * s)] Q) : spLawAct K vs H Q E :=
  have hll := of_eq_true hll
  ⟨aform, am, a, b, c, p, q, r, s, n0 + n1 + n2 + n3 + n4 + n5 + n6, hev, s0, s1, b0.mono (by omega), b1.mono (by omega), b2.mono (by omega), b3.mono (by omega), b4.mono (by omega), b5.mono (by omega), b6.mono (by omega), hll, kk⟩
theorem okLawAct (T : Txt K mg fa fd) : FnOk P w K mg base CX0 2 (fa 15) (fd 15) ["form", "m"] (spLawAct K) := by
  refine T.F__law_act.ok scLawAct (fun vs H Q E h => ?_) (fun cdv A outer s H vs Q E hr h => ?_)
  · obtain ⟨aform, am, a, b, c, p, q, r, s, N, rfl, h_aform, h_am, b_a, b_b, b_c, b_p, b_q, b_r, b_s, hN, kk⟩ := h
    rfl
  · obtain ⟨aform, am, a, b, c, p, q, r, s, N, rfl, h_aform, h_am, b_a, b_b, b_c, b_p, b_q, b_r, b_s, hN, kk⟩ := h
    refine ⟨_, (pss_cons (ps_set (i := 2) scLawAct.nd rfl (Or.inl rfl) (pe_call (sp := spLawWorth K) (okLawWorth T) hr (by rfl) T.G__law_worth T.F__law_worth.kp T.B__law_worth .nil pass0 (pa_cons (pv 0) (pa_cons (pe_ix (ixT K) (pv 1) pe_int (fun _ _ => rfl)) (pa_cons (pe_ix (ixT K) (pv 1) pe_int (fun _ _ => rfl)) pa_nil)))))
      (pss_cons (ps_set (i := 3) scLawAct.nd rfl (Or.inl rfl) (pe_call (sp := spLawWorth K) (okLawWorth T) hr (by rfl) T.G__law_worth T.F__law_worth.kp T.B__law_worth .nil pass0 (pa_cons (pv 0) (pa_cons (pe_ix (ixT K) (pv 1) pe_int (fun _ _ => rfl)) (pa_cons (pe_ix (ixT K) (pv 1) pe_int (fun _ _ => rfl)) pa_nil)))))
      (pss_one (ps_ret (pe_tup (pa_cons (pv 2) (pa_cons (pe_op op_sub (pe_op op_sub (pe_call (sp := spLawWorth K) (okLawWorth T) hr (by rfl) T.G__law_worth T.F__law_worth.kp T.B__law_worth .nil pass0 (pa_cons (pv 0) (pa_cons (pe_op op_add (pe_ix (ixT K) (pv 1) pe_int (fun _ _ => rfl)) (pe_ix (ixT K) (pv 1) pe_int (fun _ _ => rfl))) (pa_cons (pe_op op_add (pe_ix (ixT K) (pv 1) pe_int (fun _ _ => rfl)) (pe_ix (ixT K) (pv 1) pe_int (fun _ _ => rfl))) pa_nil)))) (pv 2)) (pv 3)) (pa_cons (pv 3) pa_nil)))))))), ?_⟩
    rw [← act_mid] at kk
    clean_wf
    all_goals first | omega | exact kk | (refine kk _ _ ?_ (by assumption); (repeat' (first | with_reducible exact Same.refl _ | with_reducible assumption | ((with_reducible apply sameB); with_reducible assumption))))
def spLawFixing (K : PySem.W.Frag) : Sp := fun vs H Q _ => ∃ (af : Addr) (a b c : Int), vs = [.ref af] ∧ SqT K H af [.int a, .int b, .int c] ∧ a.natAbs ≤ 100 ∧ b.natAbs ≤ 100 ∧ c.natAbs ≤ 100 ∧
  ∀ H' l ys us, Same H H' → H' l = some (.lst ys) → Tps K H' ys us → us.Perm (fixL a b c 81) → us.Pairwise leT → Q (.ref l) H'
theorem okLawFixing (T : Txt K mg fa fd) : FnOk P w K mg base CX0 3 (fa 16) (fd 16) ["form"] (spLawFixing K) := by
  refine T.F__law_fixing.ok scLawFixing (fun vs H Q E h => ?_) (fun cdv A outer s H vs Q E hr h => ?_)
  · obtain ⟨af, a, b, c, rfl, hs, h1, h2, h3, kk⟩ := h
    rfl
  · obtain ⟨af, a, b, c, rfl, hs, h1, h2, h3, kk⟩ := h
    refine ⟨_, (pss_cons (ps_set (i := 1) scLawFixing.nd rfl (Or.inl rfl) (pe_lst pa_nil))
      (pss_cons (ps_for PassesOwn.never rfl (pi_range1 (by rfl) T.m_range (pa_cons pe_int pa_nil)) (pg_name (i := 2) scLawFixing.nd rfl (Or.inl rfl))
      (pss_cons (ps_set (i := 3) scLawFixing.nd rfl (Or.inl rfl) (pe_tup (pa_cons (pe_op op_sub (pe_op op_mod (pv 2) pe_int) pe_int) (pa_cons (pe_op op_sub (pe_op op_mod (pe_op op_fdiv (pv 2) pe_int) pe_int) pe_int) (pa_cons (pe_op op_sub (pe_op op_mod (pe_op op_fdiv (pv 2) pe_int) pe_int) pe_int) (pa_cons (pe_op op_sub (pe_op op_fdiv (pv 2) pe_int) pe_int) pa_nil))))))
        (pss_one (ps_if (PW.pt (pw_and (pt_cmp (pc_eqI (pe_op op_sub (pe_op op_mulW (pe_ix (ixT K) (pv 3) pe_int (fun _ _ => rfl)) (pe_ix (ixT K) (pv 3) pe_int (fun _ _ => rfl))) (pe_op op_mulW (pe_ix (ixT K) (pv 3) pe_int (fun _ _ => rfl)) (pe_ix (ixT K) (pv 3) pe_int (fun _ _ => rfl)))) pe_int)) (pw_and1 (pt_cmpR (eqDQ K hr.units) (pe_call (sp := spLawAct K) (okLawAct T) hr (by rfl) T.G__law_act T.F__law_act.kp T.B__law_act .nil pass0 (pa_cons (pv 0) (pa_cons (pv 3) pa_nil))) (pv 0) (nomark _)))))
        (pss_one (ps_expr (pe_bm PySem.F.plainAttrs_list PySem.F.slot_list_append PySem.F.type_list_append mt_append (pv 1) (pa_cons (pv 3) pa_nil))))
        pss_nil))))
      (pss_one (ps_ret (pe_callB (srtTQ K (room65 hr)) (by rfl) T.m_sorted (by decide +kernel) (pa_cons (pv 1) pa_nil)))))), ?_⟩
    have ba : Bd 8 a := Bd.of h1 (by decide)
    have bb : Bd 8 b := Bd.of h2 (by decide)
    have bc : Bd 8 c := Bd.of h3 (by decide)
    clean_wf
    have hl := ht
    have nD := nn
    have s1 := sn
    clear sn ht nn
    generalize tn = tF at *
    generalize HN = H1 at *
    refine R.forN (lo := 0) (n := Int.toNat 81) (fun i σ H' => ∃ (x2 x3 : Option V) (ys : List V), σ = [some (.ref af), some (.ref tF), x2, x3] ∧ Same H H' ∧ H' tF = some (.lst ys) ∧ Tps K H' ys (fixL a b c i))
      ⟨_, _, [], rfl, s1, hl, .nil⟩ (fun i σ H' hi hPv => ?_) (fun σ H' hPv => ?_)
    · obtain ⟨x2, x3, ys, rfl, sm, hl, tp⟩ := hPv
      replace hi : i < 81 := hi
      rw [fixL_succ]
      have hlen := tp.len
      have hfl := fixL_len a b c i
      have k0 : 0 ≤ 0 + (i : Int) := by omega
      have k1 : 0 + (i : Int) < 81 := by omega
      generalize 0 + (i : Int) = k at *
      have sF := same_seqT sm hs
      clean_wf
      have hno : fixB a b c (k % 3 - 1) (k / 3 % 3 - 1) (k / 9 % 3 - 1) (k / 27 - 1) = false → fixC a b c k = [] := fun h => by
        unfold fixC
        rw [h]
        rfl
      by_cases z : (k % 3 - 1) * (k / 27 - 1) - (k / 3 % 3 - 1) * (k / 9 % 3 - 1) = 1
      · rw [decide_eq_true z]
        have e4 := SqT.of (K := K) ht
        have m1 : Bd 8 (k % 3 - 1) := Bd.of (m := 90) (by omega) (by decide)
        have m2 : Bd 8 (k / 3 % 3 - 1) := Bd.of (m := 90) (by omega) (by decide)
        have m3 : Bd 8 (k / 9 % 3 - 1) := Bd.of (m := 90) (by omega) (by decide)
        have m4 : Bd 8 (k / 27 - 1) := Bd.of (m := 90) (by omega) (by decide)
        have hM : fixM k = [k % 3 - 1, k / 3 % 3 - 1, k / 9 % 3 - 1, k / 27 - 1] := rfl
        have hfc : fixC a b c k = if fixB a b c (k % 3 - 1) (k / 3 % 3 - 1) (k / 9 % 3 - 1) (k / 27 - 1) then [fixM k] else [] := rfl
        generalize k % 3 - 1 = x at *
        generalize k / 3 % 3 - 1 = y at *
        generalize k / 9 % 3 - 1 = u at *
        generalize k / 27 - 1 = w at *
        have hln := sn _ _ hl
        have tpn := tp.same sn
        have smn := sm.trans sn
        clear sn ht nn
        generalize tn = tM at *
        generalize HN = H4 at *
        clean_wf
        by_cases z2 : a * x * x + b * x * u + c * u * u = a ∧ 2 * a * x * y + b * (x * w + y * u) + 2 * c * u * w = b ∧ a * y * y + b * y * w + c * w * w = c
        · rw [decide_eq_true z2]
          have hB : fixB a b c x y u w = true := by
            unfold fixB
            rw [decide_eq_true z, decide_eq_true z2]
            rfl
          rw [hfc, hB]
          clean_wf
          have hl5 := sn _ _ hln
          refine R.bmT hl5 ?_
          clean_wf
          refine R.app hl5 (by omega) (fun H5 e5 h5 => ?_)
          refine ⟨_, _, ys ++ [.ref tM], rfl, ?_, h5, ?_⟩
          · rw [e5]
            exact same_mut (smn.trans sn) nD
          · rw [e5]
            refine ((tpn.same sn).kt fun c zs h => upd_seqT hl5 h).snoc (upd_seqT hl5 (same_seqT sn ?_))
            rw [hM]
            exact e4
        · rw [decide_eq_false z2]
          have hB : fixB a b c x y u w = false := by
            unfold fixB
            rw [decide_eq_false z2, Bool.and_false]
          rw [hno hB, List.append_nil]
          clean_wf
          exact ⟨_, _, ys, rfl, smn.trans sn, sn _ _ hln, tpn.same sn⟩
      · rw [decide_eq_false z]
        have hB : fixB a b c (k % 3 - 1) (k / 3 % 3 - 1) (k / 9 % 3 - 1) (k / 27 - 1) = false := by
          unfold fixB
          rw [decide_eq_false z, Bool.false_and]
        rw [hno hB, List.append_nil]
        clean_wf
        exact ⟨_, _, ys, rfl, sm.trans sn, sn _ _ hl, tp.same sn⟩
    · obtain ⟨x2, x3, ys, rfl, sm, hl, tp⟩ := hPv
      replace tp : Tps K H' ys (fixL a b c 81) := tp
      clean_wf
      refine R.srtT (SqL.of hl) tp (fun t ht => fixL_ne ht) (fun zs us H2 p pm pw s2 np hp tz => ?_)
      clean_wf
      exact kk _ _ _ _ (sm.trans s2) hp tz pm pw
def spLaw (K : PySem.W.Frag) : Sp := fun vs H Q _ => ∃ (a : Addr) (ns : List Int), vs = [.ref a] ∧ SqL K H a (ns.map V.int) ∧ ns.length ≤ 63 ∧ ∀ H', Q (.bl true) H'
theorem okLaw (T : Txt K mg fa fd) : FnOk P w K mg base CX0 4 (fa 17) (fd 17) ["script"] (spLaw K) := by
  refine T.F_law.ok scLaw (fun vs H Q E h => ?_) (fun cdv A outer s H vs Q E hr h => ?_)
  · obtain ⟨l, ns, rfl, hS, hlen, qq⟩ := h
    rfl
  · obtain ⟨l, ns, rfl, hS, hlen, qq⟩ := h
    refine ⟨_, (pss_cons (ps_set (i := 1) scLaw.nd rfl (Or.inl rfl) (pe_call (sp := spLawState K) (okLawState T) (hr.mono (by decide)) (by rfl) T.G__law_state T.F__law_state.kp T.B__law_state .nil pass0 (pa_cons (pv 0) pa_nil)))
      (pss_cons (ps_set (i := 2) scLaw.nd rfl (Or.inl rfl) (pe_op op_add pe_int (pe_call (sp := spLawNext K) (okLawNext T) (hr.mono (by decide)) (by rfl) T.G__law_next T.F__law_next.kp T.B__law_next .nil pass0 (pa_cons (pv 1) (pa_cons pe_int pa_nil)))))
      (pss_cons (ps_set (i := 3) scLaw.nd rfl (Or.inl rfl) (pe_op op_add pe_int (pe_call (sp := spLawNext K) (okLawNext T) (hr.mono (by decide)) (by rfl) T.G__law_next T.F__law_next.kp T.B__law_next .nil pass0 (pa_cons (pv 1) (pa_cons pe_int pa_nil)))))
      (pss_cons (ps_set (i := 4) scLaw.nd rfl (Or.inl rfl) (pe_ix (ixL K) (pe_lst (pa_cons (pe_tup (pa_cons (pv 3) (pa_cons pe_int (pa_cons (pv 3) pa_nil)))) (pa_cons (pe_tup (pa_cons (pv 3) (pa_cons (pv 3) (pa_cons (pv 3) pa_nil)))) (pa_cons (pe_tup (pa_cons (pv 2) (pa_cons (pe_call (sp := spLawNext K) (okLawNext T) (hr.mono (by decide)) (by rfl) T.G__law_next T.F__law_next.kp T.B__law_next .nil pass0 (pa_cons (pv 1) (pa_cons (pe_op op_add (pv 2) pe_int) pa_nil))) (pa_cons (pe_op op_add (pv 2) (pe_call (sp := spLawNext K) (okLawNext T) (hr.mono (by decide)) (by rfl) T.G__law_next T.F__law_next.kp T.B__law_next .nil pass0 (pa_cons (pv 1) (pa_cons pe_int pa_nil)))) pa_nil)))) (pa_cons (pe_tup (pa_cons (pv 2) (pa_cons pe_int (pa_cons (pe_op op_add (pv 2) (pe_call (sp := spLawNext K) (okLawNext T) (hr.mono (by decide)) (by rfl) T.G__law_next T.F__law_next.kp T.B__law_next .nil pass0 (pa_cons (pv 1) (pa_cons pe_int pa_nil)))) pa_nil)))) pa_nil))))) (pe_call (sp := spLawNext K) (okLawNext T) (hr.mono (by decide)) (by rfl) T.G__law_next T.F__law_next.kp T.B__law_next .nil pass0 (pa_cons (pv 1) (pa_cons pe_int pa_nil))) (fun _ _ => rfl)))
      (pss_cons (ps_expr (pe_bm PySem.F.plainAttrs_list PySem.F.slot_list_append PySem.F.type_list_append mt_append (pe_call (sp := spSelfChanges K) (okSelfChanges T) hr (by rfl) T.G_self_changes T.F_self_changes.kp T.B_self_changes .nil pass0 (pa_cons (pv 4) pa_nil)) (pa_cons (pe_tup (pa_cons pe_int (pa_cons pe_int (pa_cons pe_int (pa_cons pe_int pa_nil))))) pa_nil)))
      (pss_cons (ps_if (pt_cmpR (neDQ K hr.units) (pe_callB (srtTQ K (room65 hr)) (by rfl) T.m_sorted (by decide +kernel) (pa_cons (pe_call (sp := spSelfChanges K) (okSelfChanges T) hr (by rfl) T.G_self_changes T.F_self_changes.kp T.B_self_changes .nil pass0 (pa_cons (pv 4) pa_nil)) pa_nil)) (pe_call (sp := spLawFixing K) (okLawFixing T) hr (by rfl) T.G__law_fixing T.F__law_fixing.kp T.B__law_fixing .nil pass0 (pa_cons (pv 4) pa_nil)) (nomark _))
      (pss_one (ps_ret pe_bl))
      pss_nil)
      (pss_cons (ps_set (i := 5) scLaw.nd rfl (Or.inl rfl) (pe_un un_neg (pe_op op_add (pe_op op_add pe_int (pe_call (sp := spLawNext K) (okLawNext T) (hr.mono (by decide)) (by rfl) T.G__law_next T.F__law_next.kp T.B__law_next .nil pass0 (pa_cons (pv 1) (pa_cons pe_int pa_nil)))) (pe_op op_mulW pe_int (pe_call (sp := spLawNext K) (okLawNext T) (hr.mono (by decide)) (by rfl) T.G__law_next T.F__law_next.kp T.B__law_next .nil pass0 (pa_cons (pv 1) (pa_cons pe_int pa_nil)))))))
      (pss_cons (ps_if (pt_cmp (pc_gt (pe_op op_mod (pv 5) pe_int) pe_int))
      (pss_one (ps_ret pe_bl))
      pss_nil)
      (pss_cons (ps_set (i := 6) scLaw.nd rfl (Or.inl rfl) (pe_lst pa_nil))
      (pss_cons (ps_for PassesOwn.never rfl (pi_range2 (by rfl) T.m_range (pa_cons pe_int (pa_cons pe_int pa_nil))) (pg_name (i := 2) scLaw.nd rfl (Or.inl rfl))
      (pss_one (ps_for PassesOwn.never rfl (pi_range2 (by rfl) T.m_range (pa_cons (pe_op op_sub pe_int (pv 2)) (pa_cons (pe_op op_add (pv 2) pe_int) pa_nil))) (pg_name (i := 7) scLaw.nd rfl (Or.inl rfl))
        (pss_one (ps_if (PW.pt (pw_and (pt_cmp (pc_le (pe_op op_mulW (pe_op op_mulW pe_int (pv 2)) (pv 2)) (pe_un un_neg (pv 5)))) (pw_and1 (pt_cmp (pc_eqI (pe_op op_mod (pe_op op_sub (pe_op op_mulW (pv 7) (pv 7)) (pv 5)) (pe_op op_mulW pe_int (pv 2))) pe_int)))))
          (pss_cons (ps_set (i := 8) scLaw.nd rfl (Or.inl rfl) (pe_op op_fdiv (pe_op op_sub (pe_op op_mulW (pv 7) (pv 7)) (pv 5)) (pe_op op_mulW pe_int (pv 2))))
            (pss_one (ps_if (PW.pt (pw_and (pt_cmp (pc_ge (pv 8) (pv 2))) (pw_and (PW.pt (pw_or (pt_cmp (pc_ge (pv 7) pe_int)) (pw_or1 (pt_cmp (pc_neI (pv 8) (pv 2)))))) (pw_and1 (pt_cmp (pc_eqI (pe_call (sp := spLawMeasure K) (okLawMeasure T) (hr.mono (by decide)) (by rfl) T.G__law_measure T.F__law_measure.kp T.B__law_measure .nil pass0 (pa_cons (pe_call (sp := spLawMeasure K) (okLawMeasure T) (hr.mono (by decide)) (by rfl) T.G__law_measure T.F__law_measure.kp T.B__law_measure .nil pass0 (pa_cons (pv 2) (pa_cons (pv 7) pa_nil))) (pa_cons (pv 8) pa_nil))) pe_int))))))
            (pss_one (ps_expr (pe_bm PySem.F.plainAttrs_list PySem.F.slot_list_append PySem.F.type_list_append mt_append (pv 6) (pa_cons (pe_tup (pa_cons (pv 2) (pa_cons (pv 7) (pa_cons (pv 8) pa_nil)))) pa_nil))))
            pss_nil)))
          pss_nil)))))
      (pss_cons (ps_expr (pe_bm PySem.F.plainAttrs_list PySem.F.slot_list_append PySem.F.type_list_append mt_append (pe_call (sp := spPositiveClasses K) (okPositiveClasses T) hr (by rfl) T.G_positive_classes T.F_positive_classes.kp T.B_positive_classes .nil pass0 (pa_cons (pv 5) pa_nil)) (pa_cons (pv 4) pa_nil)))
      (pss_one (ps_ret (pe_cmpR (eqDQ K hr.units) (pe_call (sp := spPositiveClasses K) (okPositiveClasses T) hr (by rfl) T.G_positive_classes T.F_positive_classes.kp T.B_positive_classes .nil pass0 (pa_cons (pv 5) pa_nil)) (pe_callB (srtTQ K (room65 hr)) (by rfl) T.m_sorted (by decide +kernel) (pa_cons (pv 6) pa_nil)) (nomark _))))))))))))))), ?_⟩
    clean_wf
    refine ⟨l, ns, rfl, hS, fun H1 p q s1 d1 => ?_⟩
    clean_wf
    intro r1 H2 r1a r1b d2 k2
    clean_wf
    intro r2 H3 r2a r2b d3 k3
    clean_wf
    rename_i Ha ta sa na hta
    have dN := d3.same (sa.trans sn)
    have sA := same_seqT sn (SqT.of (K := K) hta)
    have sB := SqT.of (K := K) ht
    clear hta ht sa sn na nn
    generalize tn = tb at *
    generalize HN = H4 at *
    intro r3 H5 r3a r3b d5 k5
    have sA := kp_seqT k5 dN sA
    have sB := kp_seqT k5 dN sB
    clean_wf
    intro r4 H6 r4a r4b d6 k6
    have sA := kp_seqT k6 d5 sA
    have sB := kp_seqT k6 d5 sB
    clean_wf
    have dN := d6.same sn
    have sA := same_seqT sn sA
    have sB := same_seqT sn sB
    have sC := SqT.of (K := K) ht
    clear ht sn nn
    generalize tn = tc at *
    generalize HN = H7 at *
    intro r5 H8 r5a r5b d8 k8
    have sA := kp_seqT k8 dN sA
    have sB := kp_seqT k8 dN sB
    have sC := kp_seqT k8 dN sC
    clean_wf
    rename_i Ha td sa na hta
    have dN := d8.same (sa.trans sn)
    have sA := same_seqT (sa.trans sn) sA
    have sB := same_seqT (sa.trans sn) sB
    have sC := same_seqT (sa.trans sn) sC
    have sD := same_seqT sn (SqT.of (K := K) hta)
    have hl := ht
    have np : tn ≠ p := fresh_ne nn (d8.same sa)
    clear hta ht sn nn sa na
    generalize tn = tl at *
    generalize HN = H9 at *
    intro r6 H10 r6a r6b d10 k10
    have lL := k10.seqL np (SqL.of (K := K) hl)
    have sA := kp_seqT k10 dN sA
    have sB := kp_seqT k10 dN sB
    have sC := kp_seqT k10 dN sC
    have sD := kp_seqT k10 dN sD
    obtain ⟨tf, a, b, c, et, sF, a1, a2, b1, b2, c1, c2⟩ : ∃ (tf : Addr) (a b c : Int), atI [V.ref ta, V.ref tb, V.ref tc, V.ref td] r6 = some (.ref tf) ∧ SqT K H10 tf [.int a, .int b, .int c] ∧ 1 ≤ a ∧ a ≤ 6 ∧ 0 ≤ b ∧ b ≤ a ∧ a ≤ c ∧ c ≤ a + 3 := by
      obtain rfl | rfl | rfl | rfl : r6 = 0 ∨ r6 = 1 ∨ r6 = 2 ∨ r6 = 3 := by omega
      · exact ⟨ta, _, _, _, rfl, sA, by omega, by omega, by omega, by omega, by omega, by omega⟩
      · exact ⟨tb, _, _, _, rfl, sB, by omega, by omega, by omega, by omega, by omega, by omega⟩
      · exact ⟨tc, _, _, _, rfl, sC, by omega, by omega, by omega, by omega, by omega, by omega⟩
      · exact ⟨td, _, _, _, rfl, sD, by omega, by omega, by omega, by omega, by omega, by omega⟩
    refine R.ixL lL et ?_
    clear sA sB sC sD lL hl et k10 d8 k8 d6 k6 d5 k5 dN d2 d3 k2 k3
    obtain ⟨g0, gb⟩ := gL_small (b := b) (c := c) a1 a2
    have pm := form_ok a1 a2 b1 b2 c1 c2
    have ba : Bd 60 a := Bd.om (by omega)
    have bb : Bd 60 b := Bd.om (by omega)
    have bc : Bd 60 c := Bd.om (by omega)
    clean_wf
    refine ⟨tf, a, b, c, rfl, sF, g0, gb, ba, bb, bc, ?_⟩
    intro H11 l1 ys1 s11 nl1 hl1 tp1
    refine R.bmT hl1 ?_
    clean_wf
    have tl1 := tp1.len
    have ln1 := selfL_len a b c
    have hln := sn _ _ hl1
    refine R.app hln (by omega) (fun H12 e12 _ => ?_)
    have s12 : Same H10 H12 := by
      rw [e12]
      exact same_mut (s11.trans sn) nl1
    have d12 := d10.same s12
    have sF12 := same_seqT s12 sF
    clear e12 hln tl1 tp1 hl1 nl1 s11 sn ht nn
    clean_wf
    refine ⟨tf, a, b, c, rfl, sF12, g0, gb, ba, bb, bc, ?_⟩
    intro H13 l3 ys3 s13 nl3 hl3 tp3
    clean_wf
    refine R.srtT (SqL.of hl3) tp3 (fun t ht => selfL_ne ht) (fun zs us H14 p14 pm14 pw14 s14 np14 hp14 tz14 => ?_)
    have sF14 := same_seqT (s13.trans s14) sF12
    have d14 := d12.same (s13.trans s14)
    clean_wf
    refine ⟨tf, a, b, c, rfl, sF14, by omega, by omega, by omega, ?_⟩
    intro H15 l15 ys15 us15 s15 hl15 tz15 pm15 pw15
    have sF15 := same_seqT s15 sF14
    have d15 := d14.same s15
    clean_wf
    refine R.neTps (SqL.of (s15 _ _ hp14)) (tz14.same s15) (SqL.of hl15) tz15 ?_
    rw [decide_eq_true (perm_leT ((pm14.trans pm).trans pm15.symm) pw14 pw15)]
    clear tz15 hl15 hp14 tz14 s15 s14 s13 sF14 sF12 d14 d12 hl3 tp3 pm14 pw14 pm15 pw15 np14 nl3
    clean_wf
    intro r7 H16 r7a r7b d16 k16
    clean_wf
    intro r8 H17 r8a r8b d17 k17
    have sF17 := kp_seqT k17 d16 (kp_seqT k16 d15 sF15)
    clear sF15 k16 k17 d15 d16
    have hd0 : -(3 + r7 + 500 * r8) < 0 := by omega
    have hd1 : -1700 ≤ -(3 + r7 + 500 * r8) := by omega
    clean_wf
    generalize -(3 + r7 + 500 * r8) = d at *
    have bd : Bd 60 d := Bd.om (by omega)
    refine way2 (fun z => ?_) (fun z => ?_)
    · skip
      clean_wf
      exact qq _
    clean_wf
    have hl := ht
    have nD := nn
    have s18 := sn
    clear sn ht nn
    generalize tn = tU at *
    generalize HN = H18 at *
    obtain ⟨M0, hM, hM1⟩ : ∃ M : Nat, manyC d = M ∧ (M ≤ 24 ∧ ∀ i : Nat, 3 * (1 + (i : Int)) * (1 + (i : Int)) ≤ -d ↔ i < M) := ⟨_, rfl, many_ok hd0 hd1⟩
    obtain ⟨hM2, hM3⟩ := hM1
    refine R.forN (lo := 1) (n := Int.toNat 24) (fun i σ H' => ∃ (x2 x7 x8 : Option V) (ys : List V), σ = [some (.ref l), some (.ref p), x2, some (.int (1 + r2)), some (.ref tf), some (.int d), some (.ref tU), x7, x8] ∧ Same H17 H' ∧ H' tU = some (.lst ys) ∧ Tps K H' ys (clsC d (min i M0)))
      ?_ (fun i σ H' hi hPv => ?_) (fun σ H' hPv => ?_)
    · exact ⟨_, _, _, [], rfl, s18, hl, by rw [Nat.zero_min]; exact .nil⟩
    · obtain ⟨x2, x7, x8, ys, rfl, sm, hl, tp⟩ := hPv
      replace hi : i < 24 := hi
      have hw : (1 + (i : Int) + 1 - (1 - (1 + (i : Int)))).toNat = 2 * (i + 1) := by omega
      have a1 : 1 ≤ 1 + (i : Int) := by omega
      have a2 : 1 + (i : Int) ≤ 26 := by omega
      have hM4 := hM3 i
      have hcl := clsC_len d (min i M0)
      have hc2 : min i M0 * (min i M0 + 1) ≤ 24 * 25 := Nat.mul_le_mul (by omega) (by omega)
      have hsucc := clsC_succ d i
      generalize 1 + (i : Int) = a at *
      have ba : Bd 60 a := Bd.om (by omega)
      by_cases hz : 3 * a * a ≤ -d
      · have hiM := hM4.mp hz
        rw [Nat.min_eq_left (by omega)] at tp hcl hc2
        rw [Nat.min_eq_left (by omega : i + 1 ≤ M0), hsucc]
        clean_wf
        rw [hw]
        refine R.forN (lo := 1 - a) (n := 2 * (i + 1)) (fun j σ H' => ∃ (x7 x8 : Option V) (ys : List V), σ = [some (.ref l), some (.ref p), some (.int a), some (.int (1 + r2)), some (.ref tf), some (.int d), some (.ref tU), x7, x8] ∧ Same H17 H' ∧ H' tU = some (.lst ys) ∧ Tps K H' ys (clsC d i ++ rowC d a j))
          ⟨_, _, ys, rfl, sm, hl, by rw [show rowC d a 0 = [] from rfl, List.append_nil]; exact tp⟩ (fun j σ H' hj hPv => ?_) (fun σ H' hPv => ?_)
        · obtain ⟨x7, x8, ys, rfl, sm, hl, tp⟩ := hPv
          rw [rowC_succ, ← List.append_assoc]
          have hlen := tp.len
          rw [List.length_append] at hlen
          have hrl := rowC_len d a j
          have b1 : -a < 1 - a + (j : Int) := by omega
          have b2 : 1 - a + (j : Int) ≤ a := by omega
          generalize 1 - a + (j : Int) = b at *
          have bb : Bd 60 b := Bd.om (by omega)
          have cd9 : CDiv (b * b - d) (4 * a) := ⟨by omega, by omega⟩
          clean_wf
          rw [decide_eq_true hz]
          clean_wf
          refine way2 (fun z => ?_) (fun z => ?_)
          · skip
            clean_wf
            have sqb : b * b ≤ 26 * 26 := by
              rw [← Int.natAbs_mul_self]
              have := Nat.mul_le_mul (show b.natAbs ≤ 26 by omega) (show b.natAbs ≤ 26 by omega)
              omega
            have sq0 : 0 ≤ b * b := sqn b
            have hc1 : 0 ≤ (b * b - d) / (4 * a) := Int.ediv_nonneg (by omega) (by omega)
            have hc2 : (b * b - d) / (4 * a) ≤ 3000 := by
              refine Int.ediv_le_of_le_mul (by omega) ?_
              have := Int.mul_le_mul_of_nonneg_left (show 1 ≤ 4 * a by omega) (show (0 : Int) ≤ 3000 by decide)
              omega
            generalize hc : (b * b - d) / (4 * a) = c at *
            have bc : Bd 60 c := Bd.om (by omega)
            have bg : Bd 60 (gI a b) := by
              show ((Nat.gcd a.natAbs b.natAbs : Nat) : Int).natAbs < 2 ^ 60
              rw [Int.natAbs_natCast]
              have := Nat.gcd_le_left b.natAbs (show 0 < a.natAbs by omega)
              exact Nat.lt_of_le_of_lt this ba
            have hcell : cellC d a b = if RedD a b c ∧ gL [a, b, c] = 1 then [[a, b, c]] else [] := by
              unfold cellC okC
              rw [hc, decide_eq_true z, Bool.true_and]
              by_cases q1 : RedD a b c
              · by_cases q2 : gL [a, b, c] = 1
                · rw [decide_eq_true q1, decide_eq_true q2, if_pos (And.intro q1 q2)]
                  rfl
                · rw [decide_eq_true q1, decide_eq_false q2, if_neg (fun h => q2 h.2 : ¬ (RedD a b c ∧ gL [a, b, c] = 1))]
                  rfl
              · rw [decide_eq_false q1, if_neg (fun h => q1 h.1 : ¬ (RedD a b c ∧ gL [a, b, c] = 1))]
                rfl
            have hno : ¬ (RedD a b c ∧ gL [a, b, c] = 1) → cellC d a b = [] := fun h => by rw [hcell, if_neg h]
            by_cases q1 : a ≤ c
            · rw [decide_eq_true q1]
              clean_wf
              by_cases q2 : 0 ≤ b
              · rw [decide_eq_true q2]
                have hred : RedD a b c := ⟨b1, b2, q1, .inl q2⟩
                clean_wf
                rw [gL_gI]
                by_cases q3 : gL [a, b, c] = 1
                · rw [decide_eq_true q3]
                  rw [hcell, if_pos (And.intro hred q3)]
                  clean_wf
                  have hln := sn _ _ hl
                  refine R.app hln (by omega) (fun H5 e5 h5 => ?_)
                  refine ⟨_, _, ys ++ [.ref tn], rfl, ?_, h5, ?_⟩
                  · rw [e5]
                    exact same_mut (sm.trans sn) nD
                  · rw [e5]
                    exact ((tp.same sn).kt fun c zs h => upd_seqT hln h).snoc (upd_seqT hln (SqT.of ht))
                · rw [decide_eq_false q3]
                  rw [hno (fun h => q3 h.2), List.append_nil]
                  clean_wf
                  exact ⟨_, _, ys, rfl, sm, hl, tp⟩
              · rw [decide_eq_false q2]
                clean_wf
                by_cases q4 : c = a
                · rw [decide_eq_true q4]
                  rw [hno (fun h => h.1.2.2.2.elim q2 (fun h => h q4.symm)), List.append_nil]
                  clean_wf
                  exact ⟨_, _, ys, rfl, sm, hl, tp⟩
                · rw [decide_eq_false q4]
                  have hred : RedD a b c := ⟨b1, b2, q1, .inr (fun h => q4 h.symm)⟩
                  clean_wf
                  rw [gL_gI]
                  by_cases q3 : gL [a, b, c] = 1
                  · rw [decide_eq_true q3]
                    rw [hcell, if_pos (And.intro hred q3)]
                    clean_wf
                    have hln := sn _ _ hl
                    refine R.app hln (by omega) (fun H5 e5 h5 => ?_)
                    refine ⟨_, _, ys ++ [.ref tn], rfl, ?_, h5, ?_⟩
                    · rw [e5]
                      exact same_mut (sm.trans sn) nD
                    · rw [e5]
                      exact ((tp.same sn).kt fun c zs h => upd_seqT hln h).snoc (upd_seqT hln (SqT.of ht))
                  · rw [decide_eq_false q3]
                    rw [hno (fun h => q3 h.2), List.append_nil]
                    clean_wf
                    exact ⟨_, _, ys, rfl, sm, hl, tp⟩
            · rw [decide_eq_false q1]
              rw [hno (fun h => q1 h.1.2.2.1), List.append_nil]
              clean_wf
              exact ⟨_, _, ys, rfl, sm, hl, tp⟩
          · have hcell : cellC d a b = [] := by
              unfold cellC okC
              rw [decide_eq_false z]
              rfl
            rw [hcell, List.append_nil]
            clean_wf
            exact ⟨_, _, ys, rfl, sm, hl, tp⟩
        · obtain ⟨x7, x8, ys, rfl, sm, hl, tp⟩ := hPv
          exact ⟨_, _, _, ys, rfl, sm, hl, tp⟩
      · have hiM : ¬ i < M0 := fun h => hz (hM4.mpr h)
        rw [Nat.min_eq_right (by omega)] at tp
        rw [Nat.min_eq_right (by omega : M0 ≤ i + 1)]
        clean_wf
        rw [hw]
        refine R.forN (lo := 1 - a) (n := 2 * (i + 1)) (fun j σ H' => ∃ (x7 x8 : Option V) (ys : List V), σ = [some (.ref l), some (.ref p), some (.int a), some (.int (1 + r2)), some (.ref tf), some (.int d), some (.ref tU), x7, x8] ∧ Same H17 H' ∧ H' tU = some (.lst ys) ∧ Tps K H' ys (clsC d M0))
          ⟨_, _, ys, rfl, sm, hl, tp⟩ (fun j σ H' hj hPv => ?_) (fun σ H' hPv => ?_)
        · obtain ⟨x7, x8, ys, rfl, sm, hl, tp⟩ := hPv
          clean_wf
          rw [decide_eq_false hz]
          clean_wf
          exact ⟨_, _, ys, rfl, sm, hl, tp⟩
        · obtain ⟨x7, x8, ys, rfl, sm, hl, tp⟩ := hPv
          exact ⟨_, _, _, ys, rfl, sm, hl, tp⟩
    · obtain ⟨x2, x7, x8, ys, rfl, sm, hl, tp⟩ := hPv
      replace tp : Tps K H' ys (clsC d (min 24 M0)) := tp
      rw [Nat.min_eq_right hM2, ← hM] at tp
      have sF2 := same_seqT sm sF17
      clean_wf
      refine uPositiveClasses rfl hd0 (by omega) ?_
      intro H2 l2 ys2 s2 nl2 hl2 tp2
      refine R.bmT hl2 ?_
      clean_wf
      have hlen := tp2.len
      have hcl := clsC_len d (manyC d)
      have hc2 : manyC d * (manyC d + 1) ≤ 24 * 25 := Nat.mul_le_mul (by omega) (by omega)
      refine R.app hl2 (by omega) (fun H3 e3 _ => ?_)
      have s3 : Same H' H3 := by
        rw [e3]
        exact same_mut s2 nl2
      have hl3 := s3 _ _ hl
      have tp3 := tp.same s3
      clear e3 hlen tp2 hl2 nl2 s2
      clean_wf
      refine uPositiveClasses rfl hd0 (by omega) ?_
      intro H4 l4 ys4 s4 nl4 hl4 tp4
      clean_wf
      refine R.srtT (SqL.of (s4 _ _ hl3)) (tp3.same s4) (fun t ht => clsC_ne ht) (fun zs us H5 p5 pm5 pw5 s5 np5 hp5 tz5 => ?_)
      rw [perm_leT pm5 pw5 (clsC_sorted d _).1] at tz5
      refine R.eqTps (SqL.of (s5 _ _ hl4)) (tp4.same s5) (SqL.of hp5) tz5 ?_
      rw [decide_eq_true rfl]
      exact qq _
end
theorem all_mk {l : PySem.W.OpenLaw} {w : World} {K : PySem.W.Frag} {h : Heap} {mg : Str → Option Value} {f : Addr} (X : K.In h) (G : h.Ns mainGlobals mg) (hfa : mg "law" = some (.ref f))
    {f0 f1 f2 f3 f4 f5 f6 f7 f8 f9 f10 f11 f12 f13 f14 f15 f16 f17 : Addr}
    {od0 an0 od1 an1 od2 an2 od3 an3 od4 an4 od5 an5 od6 an6 od7 an7 od8 an8 od9 an9 od10 an10 od11 an11 od12 an12 od13 an13 od14 an14 od15 an15 od16 an16 od17 an17 : Option Addr} {sl0 sl1 sl2 sl3 sl4 sl5 sl6 sl7 sl8 sl9 sl10 sl11 sl12 sl13 sl14 sl15 sl16 sl17 : Array (Option Value)}
    {oc0 kV0 dc0 pm0 cd0 ct0 oc1 kV1 dc1 pm1 cd1 ct1 oc2 kV2 dc2 pm2 cd2 ct2 oc3 kV3 dc3 pm3 cd3 ct3 oc4 kV4 dc4 pm4 cd4 ct4 oc5 kV5 dc5 pm5 cd5 ct5 oc6 kV6 dc6 pm6 cd6 ct6 oc7 kV7 dc7 pm7 cd7 ct7 oc8 kV8 dc8 pm8 cd8 ct8 oc9 kV9 dc9 pm9 cd9 ct9 oc10 kV10 dc10 pm10 cd10 ct10 oc11 kV11 dc11 pm11 cd11 ct11 oc12 kV12 dc12 pm12 cd12 ct12 oc13 kV13 dc13 pm13 cd13 ct13 oc14 kV14 dc14 pm14 cd14 ct14 oc15 kV15 dc15 pm15 cd15 ct15 oc16 kV16 dc16 pm16 cd16 ct16 oc17 kV17 dc17 pm17 cd17 ct17 : Value}
    (a0 : PySem.W.nsIn K mainGlobals "measure" = some (some (.ref f0))) (l0 : K.lookup f0 = some ⟨oc0, od0, .func (PySem.W.fnOf "measure" "measure" (defArgs sMeasure) (defBody sMeasure) (defScope sMeasure) .none kV0 dc0 pm0 an0 cd0 ct0), sl0⟩) (c0 : PySem.W.codeIn K cd0 "measure" = true) (k0 : PySem.W.keepIn K (.ref f0) = true)
    (a1 : PySem.W.nsIn K mainGlobals "floor_root" = some (some (.ref f1))) (l1 : K.lookup f1 = some ⟨oc1, od1, .func (PySem.W.fnOf "floor_root" "floor_root" (defArgs sFloorRoot) (defBody sFloorRoot) (defScope sFloorRoot) .none kV1 dc1 pm1 an1 cd1 ct1), sl1⟩) (c1 : PySem.W.codeIn K cd1 "floor_root" = true) (k1 : PySem.W.keepIn K (.ref f1) = true)
    (a2 : PySem.W.nsIn K mainGlobals "discriminant" = some (some (.ref f2))) (l2 : K.lookup f2 = some ⟨oc2, od2, .func (PySem.W.fnOf "discriminant" "discriminant" (defArgs sDiscriminant) (defBody sDiscriminant) (defScope sDiscriminant) .none kV2 dc2 pm2 an2 cd2 ct2), sl2⟩) (c2 : PySem.W.codeIn K cd2 "discriminant" = true) (k2 : PySem.W.keepIn K (.ref f2) = true)
    (a3 : PySem.W.nsIn K mainGlobals "content" = some (some (.ref f3))) (l3 : K.lookup f3 = some ⟨oc3, od3, .func (PySem.W.fnOf "content" "content" (defArgs sContent) (defBody sContent) (defScope sContent) .none kV3 dc3 pm3 an3 cd3 ct3), sl3⟩) (c3 : PySem.W.codeIn K cd3 "content" = true) (k3 : PySem.W.keepIn K (.ref f3) = true)
    (a4 : PySem.W.nsIn K mainGlobals "divided" = some (some (.ref f4))) (l4 : K.lookup f4 = some ⟨oc4, od4, .func (PySem.W.fnOf "divided" "divided" (defArgs sDivided) (defBody sDivided) (defScope sDivided) .none kV4 dc4 pm4 an4 cd4 ct4), sl4⟩) (c4 : PySem.W.codeIn K cd4 "divided" = true) (k4 : PySem.W.keepIn K (.ref f4) = true)
    (a5 : PySem.W.nsIn K mainGlobals "unit_change" = some (some (.ref f5))) (l5 : K.lookup f5 = some ⟨oc5, od5, .func (PySem.W.fnOf "unit_change" "unit_change" (defArgs sUnitChange) (defBody sUnitChange) (defScope sUnitChange) .none kV5 dc5 pm5 an5 cd5 ct5), sl5⟩) (c5 : PySem.W.codeIn K cd5 "unit_change" = true) (k5 : PySem.W.keepIn K (.ref f5) = true)
    (a6 : PySem.W.nsIn K mainGlobals "is_reduced" = some (some (.ref f6))) (l6 : K.lookup f6 = some ⟨oc6, od6, .func (PySem.W.fnOf "is_reduced" "is_reduced" (defArgs sIsReduced) (defBody sIsReduced) (defScope sIsReduced) .none kV6 dc6 pm6 an6 cd6 ct6), sl6⟩) (c6 : PySem.W.codeIn K cd6 "is_reduced" = true) (k6 : PySem.W.keepIn K (.ref f6) = true)
    (a7 : PySem.W.nsIn K mainGlobals "self_changes" = some (some (.ref f7))) (l7 : K.lookup f7 = some ⟨oc7, od7, .func (PySem.W.fnOf "self_changes" "self_changes" (defArgs sSelfChanges) (defBody sSelfChanges) (defScope sSelfChanges) .none kV7 dc7 pm7 an7 cd7 ct7), sl7⟩) (c7 : PySem.W.codeIn K cd7 "self_changes" = true) (k7 : PySem.W.keepIn K (.ref f7) = true)
    (a8 : PySem.W.nsIn K mainGlobals "positive_classes" = some (some (.ref f8))) (l8 : K.lookup f8 = some ⟨oc8, od8, .func (PySem.W.fnOf "positive_classes" "positive_classes" (defArgs sPositiveClasses) (defBody sPositiveClasses) (defScope sPositiveClasses) .none kV8 dc8 pm8 an8 cd8 ct8), sl8⟩) (c8 : PySem.W.codeIn K cd8 "positive_classes" = true) (k8 : PySem.W.keepIn K (.ref f8) = true)
    (a9 : PySem.W.nsIn K mainGlobals "_law_cell" = some (some (.ref f9))) (l9 : K.lookup f9 = some ⟨oc9, od9, .func (PySem.W.fnOf "_law_cell" "_law_cell" (defArgs sLawCell) (defBody sLawCell) (defScope sLawCell) .none kV9 dc9 pm9 an9 cd9 ct9), sl9⟩) (c9 : PySem.W.codeIn K cd9 "_law_cell" = true) (k9 : PySem.W.keepIn K (.ref f9) = true)
    (a10 : PySem.W.nsIn K mainGlobals "_law_numbers" = some (some (.ref f10))) (l10 : K.lookup f10 = some ⟨oc10, od10, .func (PySem.W.fnOf "_law_numbers" "_law_numbers" (defArgs sLawNumbers) (defBody sLawNumbers) (defScope sLawNumbers) .none kV10 dc10 pm10 an10 cd10 ct10), sl10⟩) (c10 : PySem.W.codeIn K cd10 "_law_numbers" = true) (k10 : PySem.W.keepIn K (.ref f10) = true)
    (a11 : PySem.W.nsIn K mainGlobals "_law_state" = some (some (.ref f11))) (l11 : K.lookup f11 = some ⟨oc11, od11, .func (PySem.W.fnOf "_law_state" "_law_state" (defArgs sLawState) (defBody sLawState) (defScope sLawState) .none kV11 dc11 pm11 an11 cd11 ct11), sl11⟩) (c11 : PySem.W.codeIn K cd11 "_law_state" = true) (k11 : PySem.W.keepIn K (.ref f11) = true)
    (a12 : PySem.W.nsIn K mainGlobals "_law_next" = some (some (.ref f12))) (l12 : K.lookup f12 = some ⟨oc12, od12, .func (PySem.W.fnOf "_law_next" "_law_next" (defArgs sLawNext) (defBody sLawNext) (defScope sLawNext) .none kV12 dc12 pm12 an12 cd12 ct12), sl12⟩) (c12 : PySem.W.codeIn K cd12 "_law_next" = true) (k12 : PySem.W.keepIn K (.ref f12) = true)
    (a13 : PySem.W.nsIn K mainGlobals "_law_measure" = some (some (.ref f13))) (l13 : K.lookup f13 = some ⟨oc13, od13, .func (PySem.W.fnOf "_law_measure" "_law_measure" (defArgs sLawMeasure) (defBody sLawMeasure) (defScope sLawMeasure) .none kV13 dc13 pm13 an13 cd13 ct13), sl13⟩) (c13 : PySem.W.codeIn K cd13 "_law_measure" = true) (k13 : PySem.W.keepIn K (.ref f13) = true)
    (a14 : PySem.W.nsIn K mainGlobals "_law_worth" = some (some (.ref f14))) (l14 : K.lookup f14 = some ⟨oc14, od14, .func (PySem.W.fnOf "_law_worth" "_law_worth" (defArgs sLawWorth) (defBody sLawWorth) (defScope sLawWorth) .none kV14 dc14 pm14 an14 cd14 ct14), sl14⟩) (c14 : PySem.W.codeIn K cd14 "_law_worth" = true) (k14 : PySem.W.keepIn K (.ref f14) = true)
    (a15 : PySem.W.nsIn K mainGlobals "_law_act" = some (some (.ref f15))) (l15 : K.lookup f15 = some ⟨oc15, od15, .func (PySem.W.fnOf "_law_act" "_law_act" (defArgs sLawAct) (defBody sLawAct) (defScope sLawAct) .none kV15 dc15 pm15 an15 cd15 ct15), sl15⟩) (c15 : PySem.W.codeIn K cd15 "_law_act" = true) (k15 : PySem.W.keepIn K (.ref f15) = true)
    (a16 : PySem.W.nsIn K mainGlobals "_law_fixing" = some (some (.ref f16))) (l16 : K.lookup f16 = some ⟨oc16, od16, .func (PySem.W.fnOf "_law_fixing" "_law_fixing" (defArgs sLawFixing) (defBody sLawFixing) (defScope sLawFixing) .none kV16 dc16 pm16 an16 cd16 ct16), sl16⟩) (c16 : PySem.W.codeIn K cd16 "_law_fixing" = true) (k16 : PySem.W.keepIn K (.ref f16) = true)
    (a17 : PySem.W.nsIn K mainGlobals "law" = some (some (.ref f17))) (l17 : K.lookup f17 = some ⟨oc17, od17, .func (PySem.W.fnOf "law" "law" (defArgs sLaw) (defBody sLaw) (defScope sLaw) .none kV17 dc17 pm17 an17 cd17 ct17), sl17⟩) (c17 : PySem.W.codeIn K cd17 "law" = true) (k17 : PySem.W.keepIn K (.ref f17) = true)
    (z0 : PySem.W.nsIn K mainGlobals "abs" = some none)
    (z1 : PySem.W.nsIn K mainGlobals "int" = some none)
    (z2 : PySem.W.nsIn K mainGlobals "len" = some none)
    (z3 : PySem.W.nsIn K mainGlobals "range" = some none)
    (z4 : PySem.W.nsIn K mainGlobals "sorted" = some none)
    (i0 : PySem.W.nsIn K mainGlobals "gcd" = some (some (.builtin "math.gcd")))
    (i1 : PySem.W.nsIn K mainGlobals "isqrt" = some (some (.builtin "math.isqrt")))
    {fw0 : Addr} {odw0 : Option Addr} {itw0 : Array Value} {nw0 : Nat} {slw0 : Array (Option Value)}
    {fw0_0 : Addr} {odw0_0 : Option Addr} {itw0_0 : Array Value} {nw0_0 : Nat} {slw0_0 : Array (Option Value)}
    {fw0_1 : Addr} {odw0_1 : Option Addr} {itw0_1 : Array Value} {nw0_1 : Nat} {slw0_1 : Array (Option Value)}
    {fw0_2 : Addr} {odw0_2 : Option Addr} {itw0_2 : Array Value} {nw0_2 : Nat} {slw0_2 : Array (Option Value)}
    {fw0_3 : Addr} {odw0_3 : Option Addr} {itw0_3 : Array Value} {nw0_3 : Nat} {slw0_3 : Array (Option Value)}
    {fw0_4 : Addr} {odw0_4 : Option Addr} {itw0_4 : Array Value} {nw0_4 : Nat} {slw0_4 : Array (Option Value)}
    {fw0_5 : Addr} {odw0_5 : Option Addr} {itw0_5 : Array Value} {nw0_5 : Nat} {slw0_5 : Array (Option Value)}
    (w0 : PySem.W.nsIn K mainGlobals "UNITS_OF_3" = some (some (.ref fw0))) (x0 : K.lookup fw0 = some ⟨.type "tuple", odw0, .seq itw0 nw0, slw0⟩) (y0 : itw0.size ≤ sizeLine) (v0 : Vals [.ref fw0_0, .ref fw0_1, .ref fw0_2, .ref fw0_3, .ref fw0_4, .ref fw0_5] itw0.toList)
    (x0_0 : K.lookup fw0_0 = some ⟨.type "tuple", odw0_0, .seq itw0_0 nw0_0, slw0_0⟩) (y0_0 : itw0_0.size ≤ sizeLine) (v0_0 : Vals [.int 2, .int 0] itw0_0.toList)
    (x0_1 : K.lookup fw0_1 = some ⟨.type "tuple", odw0_1, .seq itw0_1 nw0_1, slw0_1⟩) (y0_1 : itw0_1.size ≤ sizeLine) (v0_1 : Vals [.int 1, .int 1] itw0_1.toList)
    (x0_2 : K.lookup fw0_2 = some ⟨.type "tuple", odw0_2, .seq itw0_2 nw0_2, slw0_2⟩) (y0_2 : itw0_2.size ≤ sizeLine) (v0_2 : Vals [.int (-1), .int 1] itw0_2.toList)
    (x0_3 : K.lookup fw0_3 = some ⟨.type "tuple", odw0_3, .seq itw0_3 nw0_3, slw0_3⟩) (y0_3 : itw0_3.size ≤ sizeLine) (v0_3 : Vals [.int (-2), .int 0] itw0_3.toList)
    (x0_4 : K.lookup fw0_4 = some ⟨.type "tuple", odw0_4, .seq itw0_4 nw0_4, slw0_4⟩) (y0_4 : itw0_4.size ≤ sizeLine) (v0_4 : Vals [.int (-1), .int (-1)] itw0_4.toList)
    (x0_5 : K.lookup fw0_5 = some ⟨.type "tuple", odw0_5, .seq itw0_5 nw0_5, slw0_5⟩) (y0_5 : itw0_5.size ≤ sizeLine) (v0_5 : Vals [.int 1, .int (-1)] itw0_5.toList)
    {fw1 : Addr} {odw1 : Option Addr} {itw1 : Array Value} {nw1 : Nat} {slw1 : Array (Option Value)}
    {fw1_0 : Addr} {odw1_0 : Option Addr} {itw1_0 : Array Value} {nw1_0 : Nat} {slw1_0 : Array (Option Value)}
    {fw1_1 : Addr} {odw1_1 : Option Addr} {itw1_1 : Array Value} {nw1_1 : Nat} {slw1_1 : Array (Option Value)}
    {fw1_2 : Addr} {odw1_2 : Option Addr} {itw1_2 : Array Value} {nw1_2 : Nat} {slw1_2 : Array (Option Value)}
    {fw1_3 : Addr} {odw1_3 : Option Addr} {itw1_3 : Array Value} {nw1_3 : Nat} {slw1_3 : Array (Option Value)}
    (w1 : PySem.W.nsIn K mainGlobals "UNITS_OF_4" = some (some (.ref fw1))) (x1 : K.lookup fw1 = some ⟨.type "tuple", odw1, .seq itw1 nw1, slw1⟩) (y1 : itw1.size ≤ sizeLine) (v1 : Vals [.ref fw1_0, .ref fw1_1, .ref fw1_2, .ref fw1_3] itw1.toList)
    (x1_0 : K.lookup fw1_0 = some ⟨.type "tuple", odw1_0, .seq itw1_0 nw1_0, slw1_0⟩) (y1_0 : itw1_0.size ≤ sizeLine) (v1_0 : Vals [.int 2, .int 0] itw1_0.toList)
    (x1_1 : K.lookup fw1_1 = some ⟨.type "tuple", odw1_1, .seq itw1_1 nw1_1, slw1_1⟩) (y1_1 : itw1_1.size ≤ sizeLine) (v1_1 : Vals [.int 0, .int 1] itw1_1.toList)
    (x1_2 : K.lookup fw1_2 = some ⟨.type "tuple", odw1_2, .seq itw1_2 nw1_2, slw1_2⟩) (y1_2 : itw1_2.size ≤ sizeLine) (v1_2 : Vals [.int (-2), .int 0] itw1_2.toList)
    (x1_3 : K.lookup fw1_3 = some ⟨.type "tuple", odw1_3, .seq itw1_3 nw1_3, slw1_3⟩) (y1_3 : itw1_3.size ≤ sizeLine) (v1_3 : Vals [.int 0, .int (-1)] itw1_3.toList)
    {fw2 : Addr} {odw2 : Option Addr} {itw2 : Array Value} {nw2 : Nat} {slw2 : Array (Option Value)}
    {fw2_0 : Addr} {odw2_0 : Option Addr} {itw2_0 : Array Value} {nw2_0 : Nat} {slw2_0 : Array (Option Value)}
    {fw2_1 : Addr} {odw2_1 : Option Addr} {itw2_1 : Array Value} {nw2_1 : Nat} {slw2_1 : Array (Option Value)}
    (w2 : PySem.W.nsIn K mainGlobals "OTHER_UNITS" = some (some (.ref fw2))) (x2 : K.lookup fw2 = some ⟨.type "tuple", odw2, .seq itw2 nw2, slw2⟩) (y2 : itw2.size ≤ sizeLine) (v2 : Vals [.ref fw2_0, .ref fw2_1] itw2.toList)
    (x2_0 : K.lookup fw2_0 = some ⟨.type "tuple", odw2_0, .seq itw2_0 nw2_0, slw2_0⟩) (y2_0 : itw2_0.size ≤ sizeLine) (v2_0 : Vals [.int 2, .int 0] itw2_0.toList)
    (x2_1 : K.lookup fw2_1 = some ⟨.type "tuple", odw2_1, .seq itw2_1 nw2_1, slw2_1⟩) (y2_1 : itw2_1.size ≤ sizeLine) (v2_1 : Vals [.int (-2), .int 0] itw2_1.toList)
    : ∃ fd : FuncData, (∀ (s : Shared) (v : Value), BindsTo s fd ⟨[v], []⟩ [("script", v)]) ∧ ∀ base : Heap, K.In base → base.Ns mainGlobals mg → FnOk l.prog w K mg base CX0 4 f fd ["script"] (spLaw K) := by
  have e := hfa.symm.trans (PySem.W.mg_of X G a17)
  cases e
  have F0 := fun_mk (st := sMeasure) l0 c0 k0
  have F1 := fun_mk (st := sFloorRoot) l1 c1 k1
  have F2 := fun_mk (st := sDiscriminant) l2 c2 k2
  have F3 := fun_mk (st := sContent) l3 c3 k3
  have F4 := fun_mk (st := sDivided) l4 c4 k4
  have F5 := fun_mk (st := sUnitChange) l5 c5 k5
  have F6 := fun_mk (st := sIsReduced) l6 c6 k6
  have F7 := fun_mk (st := sSelfChanges) l7 c7 k7
  have F8 := fun_mk (st := sPositiveClasses) l8 c8 k8
  have F9 := fun_mk (st := sLawCell) l9 c9 k9
  have F10 := fun_mk (st := sLawNumbers) l10 c10 k10
  have F11 := fun_mk (st := sLawState) l11 c11 k11
  have F12 := fun_mk (st := sLawNext) l12 c12 k12
  have F13 := fun_mk (st := sLawMeasure) l13 c13 k13
  have F14 := fun_mk (st := sLawWorth) l14 c14 k14
  have F15 := fun_mk (st := sLawAct) l15 c15 k15
  have F16 := fun_mk (st := sLawFixing) l16 c16 k16
  have F17 := fun_mk (st := sLaw) l17 c17 k17
  have b0 := F0.binds (ps := ["numbers"]) fun _ _ _ _ _ _ us hl => match us, hl with | [_], _ => rfl
  have b1 := F1.binds (ps := ["n"]) fun _ _ _ _ _ _ us hl => match us, hl with | [_], _ => rfl
  have b2 := F2.binds (ps := ["form"]) fun _ _ _ _ _ _ us hl => match us, hl with | [_], _ => rfl
  have b3 := F3.binds (ps := ["form"]) fun _ _ _ _ _ _ us hl => match us, hl with | [_], _ => rfl
  have b4 := F4.binds (ps := ["form", "number"]) fun _ _ _ _ _ _ us hl => match us, hl with | [_, _], _ => rfl
  have b5 := F5.binds (ps := ["form", "t", "u"]) fun _ _ _ _ _ _ us hl => match us, hl with | [_, _, _], _ => rfl
  have b6 := F6.binds (ps := ["form"]) fun _ _ _ _ _ _ us hl => match us, hl with | [_], _ => rfl
  have b7 := F7.binds (ps := ["form"]) fun _ _ _ _ _ _ us hl => match us, hl with | [_], _ => rfl
  have b8 := F8.binds (ps := ["d"]) fun _ _ _ _ _ _ us hl => match us, hl with | [_], _ => rfl
  have b9 := F9.binds (ps := ["script", "k"]) fun _ _ _ _ _ _ us hl => match us, hl with | [_, _], _ => rfl
  have b10 := F10.binds (ps := ["cell", "many"]) fun _ _ _ _ _ _ us hl => match us, hl with | [_, _], _ => rfl
  have b11 := F11.binds (ps := ["script"]) fun _ _ _ _ _ _ us hl => match us, hl with | [_], _ => rfl
  have b12 := F12.binds (ps := ["state", "many"]) fun _ _ _ _ _ _ us hl => match us, hl with | [_, _], _ => rfl
  have b13 := F13.binds (ps := ["a", "b"]) fun _ _ _ _ _ _ us hl => match us, hl with | [_, _], _ => rfl
  have b14 := F14.binds (ps := ["form", "x", "y"]) fun _ _ _ _ _ _ us hl => match us, hl with | [_, _, _], _ => rfl
  have b15 := F15.binds (ps := ["form", "m"]) fun _ _ _ _ _ _ us hl => match us, hl with | [_, _], _ => rfl
  have b16 := F16.binds (ps := ["form"]) fun _ _ _ _ _ _ us hl => match us, hl with | [_], _ => rfl
  have b17 := F17.binds (ps := ["script"]) fun _ _ _ _ _ _ us hl => match us, hl with | [_], _ => rfl
  let fa : Nat → Addr := fun i => [f0, f1, f2, f3, f4, f5, f6, f7, f8, f9, f10, f11, f12, f13, f14, f15, f16, f, fw0, fw1, fw2].getD i 0
  let fd : Nat → FuncData := fun i => match i with
    | 0 => PySem.W.fnOf "measure" "measure" (defArgs sMeasure) (defBody sMeasure) (defScope sMeasure) .none kV0 dc0 pm0 an0 cd0 ct0
    | 1 => PySem.W.fnOf "floor_root" "floor_root" (defArgs sFloorRoot) (defBody sFloorRoot) (defScope sFloorRoot) .none kV1 dc1 pm1 an1 cd1 ct1
    | 2 => PySem.W.fnOf "discriminant" "discriminant" (defArgs sDiscriminant) (defBody sDiscriminant) (defScope sDiscriminant) .none kV2 dc2 pm2 an2 cd2 ct2
    | 3 => PySem.W.fnOf "content" "content" (defArgs sContent) (defBody sContent) (defScope sContent) .none kV3 dc3 pm3 an3 cd3 ct3
    | 4 => PySem.W.fnOf "divided" "divided" (defArgs sDivided) (defBody sDivided) (defScope sDivided) .none kV4 dc4 pm4 an4 cd4 ct4
    | 5 => PySem.W.fnOf "unit_change" "unit_change" (defArgs sUnitChange) (defBody sUnitChange) (defScope sUnitChange) .none kV5 dc5 pm5 an5 cd5 ct5
    | 6 => PySem.W.fnOf "is_reduced" "is_reduced" (defArgs sIsReduced) (defBody sIsReduced) (defScope sIsReduced) .none kV6 dc6 pm6 an6 cd6 ct6
    | 7 => PySem.W.fnOf "self_changes" "self_changes" (defArgs sSelfChanges) (defBody sSelfChanges) (defScope sSelfChanges) .none kV7 dc7 pm7 an7 cd7 ct7
    | 8 => PySem.W.fnOf "positive_classes" "positive_classes" (defArgs sPositiveClasses) (defBody sPositiveClasses) (defScope sPositiveClasses) .none kV8 dc8 pm8 an8 cd8 ct8
    | 9 => PySem.W.fnOf "_law_cell" "_law_cell" (defArgs sLawCell) (defBody sLawCell) (defScope sLawCell) .none kV9 dc9 pm9 an9 cd9 ct9
    | 10 => PySem.W.fnOf "_law_numbers" "_law_numbers" (defArgs sLawNumbers) (defBody sLawNumbers) (defScope sLawNumbers) .none kV10 dc10 pm10 an10 cd10 ct10
    | 11 => PySem.W.fnOf "_law_state" "_law_state" (defArgs sLawState) (defBody sLawState) (defScope sLawState) .none kV11 dc11 pm11 an11 cd11 ct11
    | 12 => PySem.W.fnOf "_law_next" "_law_next" (defArgs sLawNext) (defBody sLawNext) (defScope sLawNext) .none kV12 dc12 pm12 an12 cd12 ct12
    | 13 => PySem.W.fnOf "_law_measure" "_law_measure" (defArgs sLawMeasure) (defBody sLawMeasure) (defScope sLawMeasure) .none kV13 dc13 pm13 an13 cd13 ct13
    | 14 => PySem.W.fnOf "_law_worth" "_law_worth" (defArgs sLawWorth) (defBody sLawWorth) (defScope sLawWorth) .none kV14 dc14 pm14 an14 cd14 ct14
    | 15 => PySem.W.fnOf "_law_act" "_law_act" (defArgs sLawAct) (defBody sLawAct) (defScope sLawAct) .none kV15 dc15 pm15 an15 cd15 ct15
    | 16 => PySem.W.fnOf "_law_fixing" "_law_fixing" (defArgs sLawFixing) (defBody sLawFixing) (defScope sLawFixing) .none kV16 dc16 pm16 an16 cd16 ct16
    | _ => PySem.W.fnOf "law" "law" (defArgs sLaw) (defBody sLaw) (defScope sLaw) .none kV17 dc17 pm17 an17 cd17 ct17
  have T : Txt K mg fa fd := {
    F_measure := F0, B_measure := b0, G_measure := PySem.W.mg_of X G a0,
    F_floor_root := F1, B_floor_root := b1, G_floor_root := PySem.W.mg_of X G a1,
    F_discriminant := F2, B_discriminant := b2, G_discriminant := PySem.W.mg_of X G a2,
    F_content := F3, B_content := b3, G_content := PySem.W.mg_of X G a3,
    F_divided := F4, B_divided := b4, G_divided := PySem.W.mg_of X G a4,
    F_unit_change := F5, B_unit_change := b5, G_unit_change := PySem.W.mg_of X G a5,
    F_is_reduced := F6, B_is_reduced := b6, G_is_reduced := PySem.W.mg_of X G a6,
    F_self_changes := F7, B_self_changes := b7, G_self_changes := PySem.W.mg_of X G a7,
    F_positive_classes := F8, B_positive_classes := b8, G_positive_classes := PySem.W.mg_of X G a8,
    F__law_cell := F9, B__law_cell := b9, G__law_cell := PySem.W.mg_of X G a9,
    F__law_numbers := F10, B__law_numbers := b10, G__law_numbers := PySem.W.mg_of X G a10,
    F__law_state := F11, B__law_state := b11, G__law_state := PySem.W.mg_of X G a11,
    F__law_next := F12, B__law_next := b12, G__law_next := PySem.W.mg_of X G a12,
    F__law_measure := F13, B__law_measure := b13, G__law_measure := PySem.W.mg_of X G a13,
    F__law_worth := F14, B__law_worth := b14, G__law_worth := PySem.W.mg_of X G a14,
    F__law_act := F15, B__law_act := b15, G__law_act := PySem.W.mg_of X G a15,
    F__law_fixing := F16, B__law_fixing := b16, G__law_fixing := PySem.W.mg_of X G a16,
    F_law := F17, B_law := b17, G_law := PySem.W.mg_of X G a17,
    m_abs := PySem.W.mg_none_of X G z0, m_int := PySem.W.mg_none_of X G z1, m_len := PySem.W.mg_none_of X G z2, m_range := PySem.W.mg_none_of X G z3, m_sorted := PySem.W.mg_none_of X G z4, g_gcd := PySem.W.mg_of X G i0, g_isqrt := PySem.W.mg_of X G i1, g_UNITS_OF_3 := PySem.W.mg_of X G w0, S_UNITS_OF_3 := ⟨fw0_0, fw0_1, fw0_2, fw0_3, fw0_4, fw0_5, fun H => .inr ⟨_, _, _, x0, rfl, rfl, y0, v0⟩, fun H => .inr ⟨_, _, _, x0_0, rfl, rfl, y0_0, v0_0⟩, fun H => .inr ⟨_, _, _, x0_1, rfl, rfl, y0_1, v0_1⟩, fun H => .inr ⟨_, _, _, x0_2, rfl, rfl, y0_2, v0_2⟩, fun H => .inr ⟨_, _, _, x0_3, rfl, rfl, y0_3, v0_3⟩, fun H => .inr ⟨_, _, _, x0_4, rfl, rfl, y0_4, v0_4⟩, fun H => .inr ⟨_, _, _, x0_5, rfl, rfl, y0_5, v0_5⟩⟩, g_UNITS_OF_4 := PySem.W.mg_of X G w1, S_UNITS_OF_4 := ⟨fw1_0, fw1_1, fw1_2, fw1_3, fun H => .inr ⟨_, _, _, x1, rfl, rfl, y1, v1⟩, fun H => .inr ⟨_, _, _, x1_0, rfl, rfl, y1_0, v1_0⟩, fun H => .inr ⟨_, _, _, x1_1, rfl, rfl, y1_1, v1_1⟩, fun H => .inr ⟨_, _, _, x1_2, rfl, rfl, y1_2, v1_2⟩, fun H => .inr ⟨_, _, _, x1_3, rfl, rfl, y1_3, v1_3⟩⟩, g_OTHER_UNITS := PySem.W.mg_of X G w2, S_OTHER_UNITS := ⟨fw2_0, fw2_1, fun H => .inr ⟨_, _, _, x2, rfl, rfl, y2, v2⟩, fun H => .inr ⟨_, _, _, x2_0, rfl, rfl, y2_0, v2_0⟩, fun H => .inr ⟨_, _, _, x2_1, rfl, rfl, y2_1, v2_1⟩⟩ }
  exact ⟨fd 17, fun s v => .of_eq rfl, fun base _ _ => okLaw T⟩
end Wc
open PySem PySem.W PyProof.Rows
set_option maxHeartbeats 0 in
theorem PySem.Challenge.cw_wholeconic_k10_self_changes_and_classes_holds : PySem.Challenge.rw_wholeconic_k10_self_changes_and_classes.Holds := by
  w_on; o_law; k_head; (case hw => w_witness2)
  k_fill
  refine L2.walk_of (l := PySem.Challenge.rw_wholeconic_k10_self_changes_and_classes) (n := 63) (k := 4) (x := "script") (CX := fun _ => L2.CX0) (sp := fun w => Wc.spLaw _) rfl (by decide) rfl ⟨rfl, by decide, by decide⟩ (fun w h Y => PySem.W.kIn_of Y) ?F (fun _ _ a ns hl _ hS => ⟨a, ns, rfl, hS, hl, fun _ => rfl⟩) (fun _ _ _ _ _ h => h)
  case F =>
    intro w mg fa h KX G hmg
    refine' Wc.all_mk KX G hmg ?a0 ?l0 ?c0 ?k0 ?a1 ?l1 ?c1 ?k1 ?a2 ?l2 ?c2 ?k2 ?a3 ?l3 ?c3 ?k3 ?a4 ?l4 ?c4 ?k4 ?a5 ?l5 ?c5 ?k5 ?a6 ?l6 ?c6 ?k6 ?a7 ?l7 ?c7 ?k7 ?a8 ?l8 ?c8 ?k8 ?a9 ?l9 ?c9 ?k9 ?a10 ?l10 ?c10 ?k10 ?a11 ?l11 ?c11 ?k11 ?a12 ?l12 ?c12 ?k12 ?a13 ?l13 ?c13 ?k13 ?a14 ?l14 ?c14 ?k14 ?a15 ?l15 ?c15 ?k15 ?a16 ?l16 ?c16 ?k16 ?a17 ?l17 ?c17 ?k17 ?z0 ?z1 ?z2 ?z3 ?z4 ?i0 ?i1 ?w0 ?x0 ?y0 ?v0 ?x0_0 ?y0_0 ?v0_0 ?x0_1 ?y0_1 ?v0_1 ?x0_2 ?y0_2 ?v0_2 ?x0_3 ?y0_3 ?v0_3 ?x0_4 ?y0_4 ?v0_4 ?x0_5 ?y0_5 ?v0_5 ?w1 ?x1 ?y1 ?v1 ?x1_0 ?y1_0 ?v1_0 ?x1_1 ?y1_1 ?v1_1 ?x1_2 ?y1_2 ?v1_2 ?x1_3 ?y1_3 ?v1_3 ?w2 ?x2 ?y2 ?v2 ?x2_0 ?y2_0 ?v2_0 ?x2_1 ?y2_1 ?v2_1
    (case a0 => k_is); (case l0 => k_is); (case c0 => k_is); (case k0 => k_is); (case a1 => k_is); (case l1 => k_is); (case c1 => k_is); (case k1 => k_is); (case a2 => k_is); (case l2 => k_is); (case c2 => k_is); (case k2 => k_is); (case a3 => k_is); (case l3 => k_is); (case c3 => k_is); (case k3 => k_is); (case a4 => k_is); (case l4 => k_is); (case c4 => k_is); (case k4 => k_is); (case a5 => k_is); (case l5 => k_is); (case c5 => k_is); (case k5 => k_is); (case a6 => k_is); (case l6 => k_is); (case c6 => k_is); (case k6 => k_is); (case a7 => k_is); (case l7 => k_is); (case c7 => k_is); (case k7 => k_is); (case a8 => k_is); (case l8 => k_is); (case c8 => k_is); (case k8 => k_is); (case a9 => k_is); (case l9 => k_is); (case c9 => k_is); (case k9 => k_is); (case a10 => k_is); (case l10 => k_is); (case c10 => k_is); (case k10 => k_is); (case a11 => k_is); (case l11 => k_is); (case c11 => k_is); (case k11 => k_is); (case a12 => k_is); (case l12 => k_is); (case c12 => k_is); (case k12 => k_is); (case a13 => k_is); (case l13 => k_is); (case c13 => k_is); (case k13 => k_is); (case a14 => k_is); (case l14 => k_is); (case c14 => k_is); (case k14 => k_is); (case a15 => k_is); (case l15 => k_is); (case c15 => k_is); (case k15 => k_is); (case a16 => k_is); (case l16 => k_is); (case c16 => k_is); (case k16 => k_is); (case a17 => k_is); (case l17 => k_is); (case c17 => k_is); (case k17 => k_is); (case z0 => k_is); (case z1 => k_is); (case z2 => k_is); (case z3 => k_is); (case z4 => k_is); (case i0 => k_is); (case i1 => k_is); (case w0 => k_is); (case x0 => k_is); (case y0 => exact (by decide)); (case v0 => (repeat (first | exact .nil | refine .cons ⟨_, rfl⟩ ?_ | refine .cons rfl ?_))); (case x0_0 => k_is); (case y0_0 => exact (by decide)); (case v0_0 => (repeat (first | exact .nil | refine .cons ⟨_, rfl⟩ ?_))); (case x0_1 => k_is); (case y0_1 => exact (by decide)); (case v0_1 => (repeat (first | exact .nil | refine .cons ⟨_, rfl⟩ ?_))); (case x0_2 => k_is); (case y0_2 => exact (by decide)); (case v0_2 => (repeat (first | exact .nil | refine .cons ⟨_, rfl⟩ ?_))); (case x0_3 => k_is); (case y0_3 => exact (by decide)); (case v0_3 => (repeat (first | exact .nil | refine .cons ⟨_, rfl⟩ ?_))); (case x0_4 => k_is); (case y0_4 => exact (by decide)); (case v0_4 => (repeat (first | exact .nil | refine .cons ⟨_, rfl⟩ ?_))); (case x0_5 => k_is); (case y0_5 => exact (by decide)); (case v0_5 => (repeat (first | exact .nil | refine .cons ⟨_, rfl⟩ ?_))); (case w1 => k_is); (case x1 => k_is); (case y1 => exact (by decide)); (case v1 => (repeat (first | exact .nil | refine .cons ⟨_, rfl⟩ ?_ | refine .cons rfl ?_))); (case x1_0 => k_is); (case y1_0 => exact (by decide)); (case v1_0 => (repeat (first | exact .nil | refine .cons ⟨_, rfl⟩ ?_))); (case x1_1 => k_is); (case y1_1 => exact (by decide)); (case v1_1 => (repeat (first | exact .nil | refine .cons ⟨_, rfl⟩ ?_))); (case x1_2 => k_is); (case y1_2 => exact (by decide)); (case v1_2 => (repeat (first | exact .nil | refine .cons ⟨_, rfl⟩ ?_))); (case x1_3 => k_is); (case y1_3 => exact (by decide)); (case v1_3 => (repeat (first | exact .nil | refine .cons ⟨_, rfl⟩ ?_))); (case w2 => k_is); (case x2 => k_is); (case y2 => exact (by decide)); (case v2 => (repeat (first | exact .nil | refine .cons ⟨_, rfl⟩ ?_ | refine .cons rfl ?_))); (case x2_0 => k_is); (case y2_0 => exact (by decide)); (case v2_0 => (repeat (first | exact .nil | refine .cons ⟨_, rfl⟩ ?_))); (case x2_1 => k_is); (case y2_1 => exact (by decide)); (case v2_1 => (repeat (first | exact .nil | refine .cons ⟨_, rfl⟩ ?_)))
