import PyProof.Rows.All
import Wide.All
import OpenK.AllK
import Wide.FinOn
import HandS.ForMost
import HandS.Wide
import HandS.Gcd
import HandS.Style
import HandS.IsInst
import HandS.Codes
import HandS.NoneIn
import HandS.Deep
import Flt.RightSqrt
import PySem.Challenge.RW_wholeconic_k13_least_units
set_option Elab.async false
set_option linter.all false
set_option maxRecDepth 100000
set_option maxHeartbeats 4000000
namespace Wc
open PySem PySem.Spec PyProof.Rows L2
/-! ### the text -/
def topS (i : Nat) : Stmt := PySem.Challenge.pw_wholeconic_k13_least_units.main.body.getD i (.Pass ⟨0, 0, 0, 0⟩)
abbrev sMeasure : Stmt := topS 2
theorem scMeasure : FnScope ["numbers", "found", "number"] ["numbers"] (defScope sMeasure) := ⟨rfl, rfl, rfl, by decide +kernel, rfl, by decide +kernel, by decide +kernel⟩
abbrev sFloorRoot : Stmt := topS 3
theorem scFloorRoot : FnScope ["n"] ["n"] (defScope sFloorRoot) := ⟨rfl, rfl, rfl, by decide +kernel, rfl, by decide +kernel, by decide +kernel⟩
abbrev sIsSquare : Stmt := topS 4
theorem scIsSquare : FnScope ["n", "root"] ["n"] (defScope sIsSquare) := ⟨rfl, rfl, rfl, by decide +kernel, rfl, by decide +kernel, by decide +kernel⟩
abbrev sDiscriminant : Stmt := topS 6
theorem scDiscriminant : FnScope ["form", "a", "b", "c"] ["form"] (defScope sDiscriminant) := ⟨rfl, rfl, rfl, by decide +kernel, rfl, by decide +kernel, by decide +kernel⟩
abbrev sContent : Stmt := topS 7
theorem scContent : FnScope ["form"] ["form"] (defScope sContent) := ⟨rfl, rfl, rfl, by decide +kernel, rfl, by decide +kernel, by decide +kernel⟩
abbrev sDivided : Stmt := topS 8
theorem scDivided : FnScope ["form", "number", "a", "b", "c"] ["form", "number"] (defScope sDivided) := ⟨rfl, rfl, rfl, by decide +kernel, rfl, by decide +kernel, by decide +kernel⟩
abbrev sUnitChange : Stmt := topS 9
theorem scUnitChange : FnScope ["form", "t", "u", "a", "b", "c"] ["form", "t", "u"] (defScope sUnitChange) := ⟨rfl, rfl, rfl, by decide +kernel, rfl, by decide +kernel, by decide +kernel⟩
abbrev sExpand : Stmt := topS 14
theorem scExpand : FnScope ["p", "q", "d", "root", "places", "parts", "part", "first"] ["p", "q", "d"] (defScope sExpand) := ⟨rfl, rfl, rfl, by decide +kernel, rfl, by decide +kernel, by decide +kernel⟩
abbrev sPartOf : Stmt := topS 15
theorem scPartOf : FnScope ["p", "q", "root"] ["p", "q", "root"] (defScope sPartOf) := ⟨rfl, rfl, rfl, by decide +kernel, rfl, by decide +kernel, by decide +kernel⟩
abbrev sConvergents : Stmt := topS 16
theorem scConvergents : FnScope ["parts", "found", "before", "last", "part"] ["parts"] (defScope sConvergents) := ⟨rfl, rfl, rfl, by decide +kernel, rfl, by decide +kernel, by decide +kernel⟩
abbrev sPartAt : Stmt := topS 17
theorem scPartAt : FnScope ["expansion", "index", "first", "period"] ["expansion", "index"] (defScope sPartAt) := ⟨rfl, rfl, rfl, by decide +kernel, rfl, by decide +kernel, by decide +kernel⟩
abbrev sEvenTurn : Stmt := topS 18
theorem scEvenTurn : FnScope ["p", "q", "d", "expansion", "many", "index"] ["p", "q", "d"] (defScope sEvenTurn) := ⟨rfl, rfl, rfl, by decide +kernel, rfl, by decide +kernel, by decide +kernel⟩
abbrev sLeastUnit : Stmt := topS 20
theorem scLeastUnit : FnScope ["d", "odd", "x", "y"] ["d"] (defScope sLeastUnit) := ⟨rfl, rfl, rfl, by decide +kernel, rfl, by decide +kernel, by decide +kernel⟩
abbrev sSelfChange : Stmt := topS 21
theorem scSelfChange : FnScope ["form", "part", "t", "u"] ["form"] (defScope sSelfChange) := ⟨rfl, rfl, rfl, by decide +kernel, rfl, by decide +kernel, by decide +kernel⟩
abbrev sLawCell : Stmt := topS 23
theorem scLawCell : FnScope ["script", "k"] ["script", "k"] (defScope sLawCell) := ⟨rfl, rfl, rfl, by decide +kernel, rfl, by decide +kernel, by decide +kernel⟩
abbrev sLawNumbers : Stmt := topS 24
theorem scLawNumbers : FnScope ["cell", "many", "rest", "span", "numbers", "k", "mixed"] ["cell", "many"] (defScope sLawNumbers) := ⟨rfl, rfl, rfl, by decide +kernel, rfl, by decide +kernel, by decide +kernel⟩
abbrev sLawState : Stmt := topS 25
theorem scLawState : FnScope ["script", "numbers", "k"] ["script"] (defScope sLawState) := ⟨rfl, rfl, rfl, by decide +kernel, rfl, by decide +kernel, by decide +kernel⟩
abbrev sLawNext : Stmt := topS 26
theorem scLawNext : FnScope ["state", "many", "number"] ["state", "many"] (defScope sLawNext) := ⟨rfl, rfl, rfl, by decide +kernel, rfl, by decide +kernel, by decide +kernel⟩
abbrev sLawWide : Stmt := topS 27
theorem scLawWide : FnScope ["state", "many", "total", "k"] ["state", "many"] (defScope sLawWide) := ⟨rfl, rfl, rfl, by decide +kernel, rfl, by decide +kernel, by decide +kernel⟩
abbrev sLawRoot : Stmt := topS 28
theorem scLawRoot : FnScope ["n", "low", "high", "k", "middle"] ["n"] (defScope sLawRoot) := ⟨rfl, rfl, rfl, by decide +kernel, rfl, by decide +kernel, by decide +kernel⟩
abbrev sLawMeasure : Stmt := topS 29
theorem scLawMeasure : FnScope ["a", "b", "k"] ["a", "b"] (defScope sLawMeasure) := ⟨rfl, rfl, rfl, by decide +kernel, rfl, by decide +kernel, by decide +kernel⟩
abbrev sLawMul : Stmt := topS 30
theorem scLawMul : FnScope ["m", "n", "top"] ["m", "n"] (defScope sLawMul) := ⟨rfl, rfl, rfl, by decide +kernel, rfl, by decide +kernel, by decide +kernel⟩
abbrev sLawWorth : Stmt := topS 32
theorem scLawWorth : FnScope ["form", "x", "y"] ["form", "x", "y"] (defScope sLawWorth) := ⟨rfl, rfl, rfl, by decide +kernel, rfl, by decide +kernel, by decide +kernel⟩
abbrev sLawAct : Stmt := topS 33
theorem scLawAct : FnScope ["form", "m", "first", "last"] ["form", "m"] (defScope sLawAct) := ⟨rfl, rfl, rfl, by decide +kernel, rfl, by decide +kernel, by decide +kernel⟩
abbrev sLawChange : Stmt := topS 34
theorem scLawChange : FnScope ["state", "many", "m", "k", "t"] ["state", "many"] (defScope sLawChange) := ⟨rfl, rfl, rfl, by decide +kernel, rfl, by decide +kernel, by decide +kernel⟩
abbrev sLawSquare : Stmt := topS 35
theorem scLawSquare : FnScope ["n"] ["n"] (defScope sLawSquare) := ⟨rfl, rfl, rfl, by decide +kernel, rfl, by decide +kernel, by decide +kernel⟩
abbrev sLawKind : Stmt := topS 36
theorem scLawKind : FnScope ["form", "d"] ["form"] (defScope sLawKind) := ⟨rfl, rfl, rfl, by decide +kernel, rfl, by decide +kernel, by decide +kernel⟩
abbrev sLawSplit : Stmt := topS 37
theorem scLawSplit : FnScope ["state", "p", "q", "r", "s", "g", "k"] ["state"] (defScope sLawSplit) := ⟨rfl, rfl, rfl, by decide +kernel, rfl, by decide +kernel, by decide +kernel⟩
abbrev sLawFlat : Stmt := topS 38
theorem scLawFlat : FnScope ["state", "p", "q", "g"] ["state"] (defScope sLawFlat) := ⟨rfl, rfl, rfl, by decide +kernel, rfl, by decide +kernel, by decide +kernel⟩
abbrev sLawForm : Stmt := topS 39
theorem scLawForm : FnScope ["state", "sort", "k", "a", "c", "form"] ["state", "sort"] (defScope sLawForm) := ⟨rfl, rfl, rfl, by decide +kernel, rfl, by decide +kernel, by decide +kernel⟩
abbrev sLawPell : Stmt := topS 40
theorem scLawPell : FnScope ["d", "root", "m", "low", "part", "top", "bottom", "k"] ["d"] (defScope sLawPell) := ⟨rfl, rfl, rfl, by decide +kernel, rfl, by decide +kernel, by decide +kernel⟩
abbrev sLawLeast : Stmt := topS 41
theorem scLawLeast : FnScope ["d", "x", "y", "low", "high", "k", "middle", "square"] ["d"] (defScope sLawLeast) := ⟨rfl, rfl, rfl, by decide +kernel, rfl, by decide +kernel, by decide +kernel⟩
abbrev sLaw : Stmt := topS 42
theorem scLaw : FnScope ["script", "state", "d", "g", "form", "a", "b", "c", "t", "u", "m", "part"] ["script"] (defScope sLaw) := ⟨rfl, rfl, rfl, by decide +kernel, rfl, by decide +kernel, by decide +kernel⟩
structure Txt (K : PySem.W.Frag) (mg : Str → Option Value) (fa : Nat → Addr) (fd : Nat → FuncData) : Prop where
  F_measure : Fun K "measure" "measure" sMeasure (fa 0) (fd 0)
  B_measure : Binds K (fd 0) ["numbers"] []
  G_measure : mg "measure" = some (.ref (fa 0))
  F_floor_root : Fun K "floor_root" "floor_root" sFloorRoot (fa 1) (fd 1)
  B_floor_root : Binds K (fd 1) ["n"] []
  G_floor_root : mg "floor_root" = some (.ref (fa 1))
  F_is_square : Fun K "is_square" "is_square" sIsSquare (fa 2) (fd 2)
  B_is_square : Binds K (fd 2) ["n"] []
  G_is_square : mg "is_square" = some (.ref (fa 2))
  F_discriminant : Fun K "discriminant" "discriminant" sDiscriminant (fa 3) (fd 3)
  B_discriminant : Binds K (fd 3) ["form"] []
  G_discriminant : mg "discriminant" = some (.ref (fa 3))
  F_content : Fun K "content" "content" sContent (fa 4) (fd 4)
  B_content : Binds K (fd 4) ["form"] []
  G_content : mg "content" = some (.ref (fa 4))
  F_divided : Fun K "divided" "divided" sDivided (fa 5) (fd 5)
  B_divided : Binds K (fd 5) ["form", "number"] []
  G_divided : mg "divided" = some (.ref (fa 5))
  F_unit_change : Fun K "unit_change" "unit_change" sUnitChange (fa 6) (fd 6)
  B_unit_change : Binds K (fd 6) ["form", "t", "u"] []
  G_unit_change : mg "unit_change" = some (.ref (fa 6))
  F_expand : Fun K "expand" "expand" sExpand (fa 7) (fd 7)
  B_expand : Binds K (fd 7) ["p", "q", "d"] []
  G_expand : mg "expand" = some (.ref (fa 7))
  F__part_of : Fun K "_part_of" "_part_of" sPartOf (fa 8) (fd 8)
  B__part_of : Binds K (fd 8) ["p", "q", "root"] []
  G__part_of : mg "_part_of" = some (.ref (fa 8))
  F_convergents : Fun K "convergents" "convergents" sConvergents (fa 9) (fd 9)
  B_convergents : Binds K (fd 9) ["parts"] []
  G_convergents : mg "convergents" = some (.ref (fa 9))
  F_part_at : Fun K "part_at" "part_at" sPartAt (fa 10) (fd 10)
  B_part_at : Binds K (fd 10) ["expansion", "index"] []
  G_part_at : mg "part_at" = some (.ref (fa 10))
  F_even_turn : Fun K "even_turn" "even_turn" sEvenTurn (fa 11) (fd 11)
  B_even_turn : Binds K (fd 11) ["p", "q", "d"] []
  G_even_turn : mg "even_turn" = some (.ref (fa 11))
  F_least_unit : Fun K "least_unit" "least_unit" sLeastUnit (fa 12) (fd 12)
  B_least_unit : Binds K (fd 12) ["d"] []
  G_least_unit : mg "least_unit" = some (.ref (fa 12))
  F_self_change : Fun K "self_change" "self_change" sSelfChange (fa 13) (fd 13)
  B_self_change : Binds K (fd 13) ["form"] []
  G_self_change : mg "self_change" = some (.ref (fa 13))
  F__law_cell : Fun K "_law_cell" "_law_cell" sLawCell (fa 14) (fd 14)
  B__law_cell : Binds K (fd 14) ["script", "k"] []
  G__law_cell : mg "_law_cell" = some (.ref (fa 14))
  F__law_numbers : Fun K "_law_numbers" "_law_numbers" sLawNumbers (fa 15) (fd 15)
  B__law_numbers : Binds K (fd 15) ["cell", "many"] []
  G__law_numbers : mg "_law_numbers" = some (.ref (fa 15))
  F__law_state : Fun K "_law_state" "_law_state" sLawState (fa 16) (fd 16)
  B__law_state : Binds K (fd 16) ["script"] []
  G__law_state : mg "_law_state" = some (.ref (fa 16))
  F__law_next : Fun K "_law_next" "_law_next" sLawNext (fa 17) (fd 17)
  B__law_next : Binds K (fd 17) ["state", "many"] []
  G__law_next : mg "_law_next" = some (.ref (fa 17))
  F__law_wide : Fun K "_law_wide" "_law_wide" sLawWide (fa 18) (fd 18)
  B__law_wide : Binds K (fd 18) ["state", "many"] []
  G__law_wide : mg "_law_wide" = some (.ref (fa 18))
  F__law_root : Fun K "_law_root" "_law_root" sLawRoot (fa 19) (fd 19)
  B__law_root : Binds K (fd 19) ["n"] []
  G__law_root : mg "_law_root" = some (.ref (fa 19))
  F__law_measure : Fun K "_law_measure" "_law_measure" sLawMeasure (fa 20) (fd 20)
  B__law_measure : Binds K (fd 20) ["a", "b"] []
  G__law_measure : mg "_law_measure" = some (.ref (fa 20))
  F__law_mul : Fun K "_law_mul" "_law_mul" sLawMul (fa 21) (fd 21)
  B__law_mul : Binds K (fd 21) ["m", "n"] []
  G__law_mul : mg "_law_mul" = some (.ref (fa 21))
  F__law_worth : Fun K "_law_worth" "_law_worth" sLawWorth (fa 22) (fd 22)
  B__law_worth : Binds K (fd 22) ["form", "x", "y"] []
  G__law_worth : mg "_law_worth" = some (.ref (fa 22))
  F__law_act : Fun K "_law_act" "_law_act" sLawAct (fa 23) (fd 23)
  B__law_act : Binds K (fd 23) ["form", "m"] []
  G__law_act : mg "_law_act" = some (.ref (fa 23))
  F__law_change : Fun K "_law_change" "_law_change" sLawChange (fa 24) (fd 24)
  B__law_change : Binds K (fd 24) ["state", "many"] []
  G__law_change : mg "_law_change" = some (.ref (fa 24))
  F__law_square : Fun K "_law_square" "_law_square" sLawSquare (fa 25) (fd 25)
  B__law_square : Binds K (fd 25) ["n"] []
  G__law_square : mg "_law_square" = some (.ref (fa 25))
  F__law_kind : Fun K "_law_kind" "_law_kind" sLawKind (fa 26) (fd 26)
  B__law_kind : Binds K (fd 26) ["form"] []
  G__law_kind : mg "_law_kind" = some (.ref (fa 26))
  F__law_split : Fun K "_law_split" "_law_split" sLawSplit (fa 27) (fd 27)
  B__law_split : Binds K (fd 27) ["state"] []
  G__law_split : mg "_law_split" = some (.ref (fa 27))
  F__law_flat : Fun K "_law_flat" "_law_flat" sLawFlat (fa 28) (fd 28)
  B__law_flat : Binds K (fd 28) ["state"] []
  G__law_flat : mg "_law_flat" = some (.ref (fa 28))
  F__law_form : Fun K "_law_form" "_law_form" sLawForm (fa 29) (fd 29)
  B__law_form : Binds K (fd 29) ["state", "sort"] []
  G__law_form : mg "_law_form" = some (.ref (fa 29))
  F__law_pell : Fun K "_law_pell" "_law_pell" sLawPell (fa 30) (fd 30)
  B__law_pell : Binds K (fd 30) ["d"] []
  G__law_pell : mg "_law_pell" = some (.ref (fa 30))
  F__law_least : Fun K "_law_least" "_law_least" sLawLeast (fa 31) (fd 31)
  B__law_least : Binds K (fd 31) ["d"] []
  G__law_least : mg "_law_least" = some (.ref (fa 31))
  F_law : Fun K "law" "law" sLaw (fa 32) (fd 32)
  B_law : Binds K (fd 32) ["script"] []
  G_law : mg "law" = some (.ref (fa 32))
  m_abs : mg "abs" = none
  m_int : mg "int" = none
  m_len : mg "len" = none
  m_range : mg "range" = none
  m_tuple : mg "tuple" = none
  g_gcd : mg "gcd" = some (.builtin "math.gcd")
  g_isqrt : mg "isqrt" = some (.builtin "math.isqrt")

/-! ### heaps, draws -/
theorem same_upd {H : Hp} {p : Addr} {o : HO} (h : H p = none) : Same H (upd H p o) := fun b x e => by
  rw [upd_ne (ne_of_none e h)]
  exact e
theorem same_mut {H0 H : Hp} {p : Addr} {o : HO} (s : Same H0 H) (h : H0 p = none) : Same H0 (upd H p o) := fun b x e => by
  rw [upd_ne (ne_of_none e h)]
  exact s _ _ e
theorem same_off {H H' : Hp} {p : Addr} {o : HO} {q : Addr} (f : ∀ b, b ≠ p → H' b = H b) (n : q ≠ p) (h : H q = some o) : H' q = some o := by
  rw [f q n]
  exact h
/-- the state of the draws: the list at p, its numbers at a, at most N draws so far -/
def Dw (H : Hp) (p a : Addr) (N : Nat) : Prop := ∃ (m : Nat) (ns : List Int), m ≤ N ∧ a ≠ p ∧ H p = some (.lst [.ref a, .int (m : Int)]) ∧ H a = some (.lst (ns.map V.int)) ∧ ns.length = 120 ∧ ∀ n ∈ ns, 0 ≤ n ∧ n < 1000
theorem Dw.same {H H' : Hp} {p a : Addr} {N : Nat} (s : Same H H') (d : Dw H p a N) : Dw H' p a N := by
  obtain ⟨m, ns, h1, h2, h3, h4, h5⟩ := d
  exact ⟨m, ns, h1, h2, s _ _ h3, s _ _ h4, h5⟩
theorem Dw.mono {H : Hp} {p a : Addr} {N M : Nat} (d : Dw H p a N) (h : N ≤ M) : Dw H p a M := by
  obtain ⟨m, ns, h1, h2⟩ := d
  exact ⟨m, ns, Nat.le_trans h1 h, h2⟩
theorem Dw.new {H : Hp} {p a q : Addr} {o : HO} {N : Nat} (d : Dw H p a N) (h : H q = none) : Dw (upd H q o) p a N := d.same (same_upd h)
theorem Dw.ne {H : Hp} {p a q : Addr} {N : Nat} (d : Dw H p a N) (h : H q = none) : q ≠ p ∧ q ≠ a := by
  obtain ⟨m, ns, h1, h2, h3, h4, h5⟩ := d
  exact ⟨(ne_of_none h3 h).symm, (ne_of_none h4 h).symm⟩
theorem Dw.mut {H : Hp} {p a q : Addr} {o : HO} {N : Nat} (d : Dw H p a N) (hp : q ≠ p) (ha : q ≠ a) : Dw (upd H q o) p a N := by
  obtain ⟨m, ns, h1, h2, h3, h4, h5⟩ := d
  exact ⟨m, ns, h1, h2, by rw [upd_ne hp.symm]; exact h3, by rw [upd_ne ha.symm]; exact h4, h5⟩
theorem at_mem {α : Type} {xs : List α} {r : Int} (h0 : 0 ≤ r) (h1 : r < xs.length) : ∃ v, v ∈ xs ∧ atI xs r = some v := by
  obtain ⟨j, rfl⟩ := Int.eq_ofNat_of_zero_le h0
  have hj : j < xs.length := by omega
  exact ⟨xs[j], List.getElem_mem hj, atI_nat (List.getElem?_eq_getElem hj)⟩
theorem at_int {ns : List Int} {r : Int} (h0 : 0 ≤ r) (h1 : r < ns.length) : ∃ n ∈ ns, atI (ns.map V.int) r = some (.int n) := by
  obtain ⟨v, hv, e⟩ := at_mem (xs := ns.map V.int) h0 (by rw [List.length_map]; exact h1)
  obtain ⟨n, hn, rfl⟩ := List.mem_map.mp hv
  exact ⟨n, hn, e⟩
theorem pow_ok {i j : Int} (h : 0 ≤ j ∧ j ≤ 1000000 ∧ i.natAbs < 2 ^ 64) : CPow i j := h
theorem wayF {c A B : Prop} [Decidable c] (h : ¬ c) (b : B) : if decide c = true then A else B := by
  rw [if_neg (fun z => h (of_decide_eq_true z))]
  exact b
theorem wayT {c A B : Prop} [Decidable c] (h : c) (a : A) : if decide c = true then A else B := by
  rw [if_pos (decide_eq_true h)]
  exact a
theorem wayNF {c A B : Prop} [Decidable c] (h : c) (b : B) : if (!decide c) = true then A else B := by
  rw [decide_eq_true h]
  exact iteF b
theorem wayNT {c A B : Prop} [Decidable c] (h : ¬ c) (a : A) : if (!decide c) = true then A else B := by
  rw [decide_eq_false h]
  exact iteT a
theorem way2 {c A B : Prop} [Decidable c] (h1 : c → A) (h2 : ¬ c → B) : if decide c = true then A else B := by
  by_cases h : c
  · exact wayT h (h1 h)
  · exact wayF h (h2 h)
theorem wayN2 {c A B : Prop} [Decidable c] (h1 : ¬ c → A) (h2 : c → B) : if (!decide c) = true then A else B := by
  by_cases h : c
  · exact wayNF h (h2 h)
  · exact wayNT h (h1 h)
theorem abs_int (i : Int) : (if i < 0 then -i else i) = (i.natAbs : Int) := by
  split <;> omega
theorem small200 {n : Nat} (h : n ≤ 1000) : n ≤ sizeLine := Nat.le_of_lt (small1000 h)
/-! ### data: == of lists and tuples -/
theorem dp_ints {K : PySem.W.Frag} {H : Hp} : ∀ ns : List Int, DpAll K H (ns.map V.int) (ns.map PyData.int)
  | [] => .nil
  | n :: ns => .cons (.int n) (dp_ints ns)
theorem lay_ints : ∀ ns : List Int, PyData.canLayAll0 (ns.map PyData.int) = true
  | [] => rfl
  | n :: ns => by
    rw [List.map_cons, PyData.canLayAll0, lay_ints ns]
    rfl
theorem depth_ints : ∀ ns : List Int, PyData.depthAll (ns.map PyData.int) = 0
  | [] => rfl
  | n :: ns => by
    rw [List.map_cons, PyData.depthAll, depth_ints ns]
    rfl
theorem shaped_ints (ns : List Int) : SeqAt.shaped (.list (ns.map PyData.int)) = true := by
  show (PyData.canLay0 (.list (ns.map PyData.int)) && decide (PyData.depth (.list (ns.map PyData.int)) ≤ 64)) = true
  rw [Bool.and_eq_true]
  refine ⟨by rw [PyData.canLay0]; exact lay_ints ns, decide_eq_true ?_⟩
  rw [PyData.depth, depth_ints]
  decide
theorem shaped_intsT (ns : List Int) : SeqAt.shaped (.tuple (ns.map PyData.int)) = true := by
  show (PyData.canLay0 (.tuple (ns.map PyData.int)) && decide (PyData.depth (.tuple (ns.map PyData.int)) ≤ 64)) = true
  rw [Bool.and_eq_true]
  refine ⟨by rw [PyData.canLay0]; exact lay_ints ns, decide_eq_true ?_⟩
  rw [PyData.depth, depth_ints]
  decide
theorem eqD_same {K : PySem.W.Frag} {H : Hp} {x y : V} {Q : VK} {d : PyData} (hx : Dp K H x d) (hy : Dp K H y d) (sh : SeqAt.shaped d = true) (q : Q (.bl true) H) : rEqD K x y H Q :=
  ⟨d, d, hx, hy, sh, sh, by rw [SeqAt.eqv_refl d (SeqAt.canLay_of_shaped sh)]; exact q⟩
theorem neD_same {K : PySem.W.Frag} {H : Hp} {x y : V} {Q : VK} {d : PyData} (hx : Dp K H x d) (hy : Dp K H y d) (sh : SeqAt.shaped d = true) (q : Q (.bl false) H) : rNeD K x y H Q :=
  ⟨d, d, hx, hy, sh, sh, by rw [SeqAt.eqv_refl d (SeqAt.canLay_of_shaped sh)]; exact q⟩
/-! ### slices -/
theorem cut_to (ns : List Int) (k : Nat) : cutV (ns.map V.int) none (some (k : Int)) = (ns.take k).map V.int := by
  unfold cutV
  rw [HT.sIx_none, HT.sIx_nat, List.drop_zero, List.map_take, Nat.sub_zero, List.length_map]
  by_cases h : k ≤ ns.length
  · rw [Nat.min_eq_left h]
  · rw [Nat.min_eq_right (by omega), List.take_of_length_le (by rw [List.length_map]; omega), List.take_of_length_le (by rw [List.length_map]; omega)]
theorem cut_from (xs : List V) (k : Nat) : cutV xs (some (k : Int)) none = xs.drop k := by
  unfold cutV
  rw [HT.sIx_none, HT.sIx_nat]
  by_cases h : k ≤ xs.length
  · rw [Nat.min_eq_left h, List.take_of_length_le (by rw [List.length_drop]; omega)]
  · rw [Nat.min_eq_right (by omega), List.drop_of_length_le (by omega), List.drop_of_length_le (by omega)]
    exact List.take_nil
theorem isiF {K : PySem.W.Frag} {H : Hp} {i : Int} {Q : VK} (q : Q (.bl false) H) : rIsi K [.int i, .ty "bool"] H Q := ⟨_, _, _, _, false, rfl, ClsV.ty _, TyX.base (.int i), kit_ty (by decide +kernel), q⟩
theorem isiT {K : PySem.W.Frag} {H : Hp} {b : Bool} {Q : VK} (q : Q (.bl true) H) : rIsi K [.bl b, .ty "bool"] H Q := ⟨_, _, _, _, true, rfl, ClsV.ty _, TyX.base (.bl b), kit_ty (by decide +kernel), q⟩
theorem isiTup {K : PySem.W.Frag} {H : Hp} {a : Addr} {xs : List V} {Q : VK} (h : H a = some (.tup xs)) (q : Q (.bl true) H) : rIsi K [.ref a, .ty "tuple"] H Q := ⟨_, _, _, _, true, rfl, ClsV.ty _, TyX.base (.tup h), kit_ty (by decide +kernel), q⟩
theorem isiLst {K : PySem.W.Frag} {H : Hp} {a : Addr} {xs : List V} {Q : VK} (h : H a = some (.lst xs)) (q : Q (.bl true) H) : rIsi K [.ref a, .ty "list"] H Q := ⟨_, _, _, _, true, rfl, ClsV.ty _, TyX.base (.lst h), kit_ty (by decide +kernel), q⟩
/-! ### rules with the written part named -/
section
variable {X : Cx}
def rLenQ (K : PySem.W.Frag) : List V → Hp → VK → Prop := fun xs H Q => ∃ p ys, xs = [.ref p] ∧ (SqL K H p ys ∨ SqT K H p ys) ∧ Q (.int ys.length) H
def rListQ (K : PySem.W.Frag) : List V → Hp → VK → Prop := fun xs H Q => ∃ p ys, xs = [.ref p] ∧ (SqL K H p ys ∨ SqT K H p ys) ∧ ∀ l, H l = none → Q (.ref l) (upd H l (.lst ys))
def rTupQ (K : PySem.W.Frag) : List V → Hp → VK → Prop := fun xs H Q => ∃ p ys, xs = [.ref p] ∧ ((SqL K H p ys ∧ ∀ l, H l = none → Q (.ref l) (upd H l (.tup ys))) ∨ (SqT K H p ys ∧ Q (.ref p) H))
theorem ixL (K : PySem.W.Frag) (h : X.K = K := by rfl) : IxR X (rIxL K) := by subst h; exact ix_list
theorem ixT (K : PySem.W.Frag) (h : X.K = K := by rfl) : IxR X (rIxT K) := by subst h; exact ix_tup
theorem slL (K : PySem.W.Frag) (h : X.K = K := by rfl) : SlR X (rSlL K) := by subst h; exact sl_list
theorem slT (K : PySem.W.Frag) (h : X.K = K := by rfl) : SlR X (rSlT K) := by subst h; exact sl_tup
theorem lenQ (K : PySem.W.Frag) (h : X.K = K := by rfl) : CallR X (.builtin "len") (rLenQ K) := by subst h; exact call_len_seq
theorem listQ (K : PySem.W.Frag) (h : X.K = K := by rfl) : CallR X (.type "list") (rListQ K) := by subst h; exact call_list_of
theorem tupQ (K : PySem.W.Frag) (h : X.K = K := by rfl) : CallR X (.type "tuple") (rTupQ K) := by subst h; exact call_tuple_of
theorem isiQ (K : PySem.W.Frag) (h : X.K = K := by rfl) : CallR X (.builtin "isinstance") (rIsi K) := by subst h; exact call_isi
theorem eqDQ (K : PySem.W.Frag) (hu : X.A.units + 64 < cLine) (h : X.K = K := by rfl) : OpR X (compareOp .Eq) (rEqD K) := by subst h; exact op_eqD hu
theorem neDQ (K : PySem.W.Frag) (hu : X.A.units + 64 < cLine) (h : X.K = K := by rfl) : OpR X (compareOp .NotEq) (rNeD K) := by subst h; exact op_neD hu
theorem piL (K : PySem.W.Frag) {tg l : Expr} {tl : TE} (hl : PE X l tl) (h : X.K = K := by rfl) : PI X tg l (iList K tl) := by subst h; exact pi_list hl
theorem piT (K : PySem.W.Frag) {tg l : Expr} {tl : TE} (hl : PE X l tl) (h : X.K = K := by rfl) : PI X tg l (iTup K tl) := by subst h; exact pi_tup hl
theorem inQ (K : PySem.W.Frag) (h : X.K = K := by rfl) : OpR X (compareOp .In) (rIn K false) := by subst h; exact op_in_seq
theorem notInQ (K : PySem.W.Frag) (h : X.K = K := by rfl) : OpR X (compareOp .NotIn) (rIn K true) := by subst h; exact op_notIn_seq
end
/-! ### great numbers -/
section
variable {X : Cx}
/-- // by any divisor below 2 ^ 9000 -/
def CDivX (_ j : Int) : Prop := j ≠ 0 ∧ j.natAbs < 2 ^ 9000
theorem op_fdivX : OpR X (binaryOp .FloorDiv) (rI CDivX fun i j => .int (i.fdiv j)) := opI fun i j _ _ _ _ _ hc q =>
  floordiv_int hc.1 q (.inl (PyProof.noPylong_of_log2 (PySem.Flt.log2_lt_of (by decide) hc.2)))
end
theorem pow_up {n a b : Nat} (h : n < 2 ^ a) (hab : a ≤ b) : n < 2 ^ b := Nat.lt_of_lt_of_le h (Nat.pow_le_pow_right (by decide) hab)

/-! ### bounds by powers of two -/
def Bd (n : Nat) (x : Int) : Prop := x.natAbs < 2 ^ n
theorem Bd.mono {n m : Nat} {x : Int} (h : Bd n x) (l : n ≤ m) : Bd m x := Nat.lt_of_lt_of_le h (Nat.pow_le_pow_right (by decide) l)
theorem Bd.mul {n m : Nat} {x y : Int} (h1 : Bd n x) (h2 : Bd m y) : Bd (n + m) (x * y) := wide_lt h1 h2
theorem Bd.add {n m : Nat} {x y : Int} (h1 : Bd n x) (h2 : Bd m y) : Bd (max n m + 1) (x + y) := by
  have a1 := h1.mono (Nat.le_max_left n m)
  have a2 := h2.mono (Nat.le_max_right n m)
  unfold Bd at *
  rw [Nat.pow_succ]
  omega
theorem Bd.neg {n : Nat} {x : Int} (h : Bd n x) : Bd n (-x) := by
  unfold Bd at *
  rw [Int.natAbs_neg]
  exact h
theorem Bd.sub {n m : Nat} {x y : Int} (h1 : Bd n x) (h2 : Bd m y) : Bd (max n m + 1) (x - y) := by
  have h := h1.add h2.neg
  rw [← Int.sub_eq_add_neg] at h
  exact h
theorem Bd.l8 {x : Int} (h : (x.natAbs < 2 ^ 8) = True) : Bd 8 x := of_eq_true h
theorem Bd.lit {x : Int} (h : (x.natAbs < 2 ^ 64) = True) : Bd 64 x := of_eq_true h
theorem Bd.om {x : Int} (h : x.natAbs < 1152921504606846976) : Bd 60 x := h
theorem Bd.fdiv {n : Nat} {x y : Int} (h : Bd n x) : Bd n (x.fdiv y) := by
  unfold Bd at *
  exact Nat.lt_of_le_of_lt (Int.natAbs_fdiv_le_natAbs x y) h
theorem Bd.mod {n : Nat} {x y : Int} (h : Bd n y) (hy : y ≠ 0) : Bd n (x % y) := by
  unfold Bd at *
  have h0 := Int.emod_nonneg x hy
  have h1 := Int.emod_lt x hy
  omega
theorem Bd.abs {n : Nat} {x : Int} (h : Bd n x) : Bd n (x.natAbs : Int) := by
  unfold Bd at *
  rw [Int.natAbs_natCast]
  exact h
theorem Bd.div {n : Nat} {x y : Int} (h : Bd n x) : Bd n (x / y) := by
  unfold Bd at *
  exact Nat.lt_of_le_of_lt (Int.natAbs_ediv_le_natAbs x y) h
theorem bdm {n m : Nat} {x : Int} (h : Bd n x) (l : Nat.ble n m = true) : Bd m x := h.mono (Nat.le_of_ble_eq_true l)
theorem Bd.of {n : Nat} {x : Int} {m : Nat} (h : x.natAbs ≤ m) (l : m < 2 ^ n) : Bd n x := Nat.lt_of_le_of_lt h l
theorem Bd.mulW {n m : Nat} {x y : Int} (h1 : Bd n x) (h2 : Bd m y) (l : n + m ≤ 900000) : CMulW x y :=
  wide_mul (a := n + 1) (b := m + 1) (h1.mono (Nat.le_succ n)) (h2.mono (Nat.le_succ m)) (Nat.succ_pos n) (Nat.succ_pos m) (by omega)
theorem Bd.x4 {n m : Nat} {x y : Int} (h1 : Bd n x) (l : n ≤ m) (h : y = x) : Bd m y := h ▸ h1.mono l
/-! ### heaps -/
theorem same_seqT {K : PySem.W.Frag} {H H' : Hp} {a : Addr} {xs : List V} (e : Same H H') (h : SqT K H a xs) : SqT K H' a xs := by
  rcases h with (h | ⟨o, h⟩) | h
  · exact .inl (.inl (e _ _ h))
  · exact .inl (.inr ⟨o, e _ _ h⟩)
  · exact .inr h
/-- tuples stay -/
def KT (K : PySem.W.Frag) (H H' : Hp) : Prop := ∀ a xs, SqT K H a xs → SqT K H' a xs
/-- all but p stays -/
def Frm (p : Addr) (H H' : Hp) : Prop := ∀ b, b ≠ p → H' b = H b
/-- all that was tracked, but p, stays -/
def Kp (p : Addr) (H H' : Hp) : Prop := ∀ b o, b ≠ p → H b = some o → H' b = some o
theorem same_kt {K : PySem.W.Frag} {H H' : Hp} (e : Same H H') : KT K H H' := fun _ _ h => same_seqT e h
theorem same_kp {p : Addr} {H H' : Hp} (e : Same H H') : Kp p H H' := fun b o _ h => e b o h
theorem frm_kp {p : Addr} {H H' : Hp} (f : Frm p H H') : Kp p H H' := fun b o n h => (f b n).trans h
theorem Kp.refl {p : Addr} {H : Hp} : Kp p H H := fun b o _ h => h
theorem Kp.trans {p : Addr} {H H1 H2 : Hp} (a : Kp p H H1) (b : Kp p H1 H2) : Kp p H H2 := fun c o n h => b c o n (a c o n h)
theorem KT.trans {K : PySem.W.Frag} {H H1 H2 : Hp} (a : KT K H H1) (b : KT K H1 H2) : KT K H H2 := fun c xs h => b c xs (a c xs h)
theorem KT.refl {K : PySem.W.Frag} {H : Hp} : KT K H H := fun _ _ h => h
theorem kpB {p : Addr} {H H1 H' : Hp} (e : Kp p H1 H') (s : Kp p H H1) : Kp p H H' := s.trans e
theorem sameB {H H1 H' : Hp} (e : Same H1 H') (s : Same H H1) : Same H H' := s.trans e
theorem same_at {H H' : Hp} {a : Addr} {o : HO} (e : Same H H') (h : H a = some o) : H' a = some o := e _ _ h
theorem kp_at {p : Addr} {H H' : Hp} {a : Addr} {o : HO} (e : Kp p H H') (n : a ≠ p) (h : H a = some o) : H' a = some o := e _ _ n h
theorem KT.use {K : PySem.W.Frag} {H H' : Hp} {a : Addr} {xs : List V} (e : KT K H H') (h : SqT K H a xs) : SqT K H' a xs := e a xs h
theorem Kp.kt {K : PySem.W.Frag} {H H' : Hp} {p a : Addr} {N : Nat} (f : Kp p H H') (d : Dw H p a N) : KT K H H' := fun c xs h => by
  obtain ⟨m, ns, h1, h2, h3, h4⟩ := d
  rcases h with (h | ⟨o, h⟩) | h
  · refine .inl (.inl (f c _ ?_ h))
    rintro rfl
    rw [h3] at h
    cases h
  · refine .inl (.inr ⟨o, f c _ ?_ h⟩)
    rintro rfl
    rw [h3] at h
    cases h
  · exact .inr h
theorem kp_seqT {K : PySem.W.Frag} {H H' : Hp} {p a b : Addr} {N : Nat} {xs : List V} (f : Kp p H H') (d : Dw H p a N) (h : SqT K H b xs) : SqT K H' b xs := f.kt d b xs h
theorem Kp.seqL {K : PySem.W.Frag} {p : Addr} {H H' : Hp} {a : Addr} {xs : List V} (f : Kp p H H') (n : a ≠ p) (h : SqL K H a xs) : SqL K H' a xs := by
  rcases h with (h | ⟨o, h⟩) | h
  · exact .inl (.inl (f _ _ n h))
  · exact .inl (.inr ⟨o, f _ _ n h⟩)
  · exact .inr h
theorem Dw.kp0 {H : Hp} {p a q : Addr} {o : HO} (h : H q = none) : Kp p H (upd H q o) := same_kp (same_upd h)
theorem fresh_ne {H : Hp} {o p a : Addr} {N : Nat} (h : H o = none) (d : Dw H p a N) : o ≠ p := (d.ne h).1
section
variable {X : Cx}
def rAbs (_ : PySem.W.Frag) : List V → Hp → VK → Prop := fun xs H Q => ∃ i : Int, xs = [.int i] ∧ Q (.int (i.natAbs : Int)) H
def rInt (_ : PySem.W.Frag) : List V → Hp → VK → Prop := fun xs H Q => (∃ i : Int, xs = [.int i] ∧ Q (.int i) H) ∨ ∃ k : Bool, xs = [.bl k] ∧ Q (.int (if k then 1 else 0)) H
theorem absQ (K : PySem.W.Frag) : CallR X (.builtin "abs") (rAbs K) := by
  intro pins s σ H xs us Q I r h
  obtain ⟨i, e, q⟩ := h
  exact call_abs pins s σ H xs us Q I r ⟨i, e, by rw [abs_int]; exact q⟩
theorem intQ (K : PySem.W.Frag) : CallR X (.type "int") (rInt K) := call_int1
theorem minQ (K : PySem.W.Frag) (hc : X.calm = true := by rfl) (h : X.K = K := by rfl) : CallR X (.builtin "min") (rMin K) := by
  subst h
  exact cr_min hc
theorem pgT (K : PySem.W.Frag) (n : Nat) {es : List Expr} {k : Nat} {pos : Pos} {t : TGs} (hc : X.calm = true) (h : PGs X es t) (hn : (assignEach es X.env).length = n := by rfl) (hst : (assignEach es X.env).findIdx? (·.1) = none := by rfl) (hK : X.K = K := by rfl) : PG X (.Tuple es k pos) (gTup K n t) := by
  subst hK
  exact pg_tup hc h hn hst
end
namespace R
section
variable {K : PySem.W.Frag} {σ : L2.St} {H : Hp} {Q : VK} {ta tb te : TE} {v x y : V} {i j : Int}
theorem var {n : Nat} (h : σ[n]? = some (some v)) (q : Q v H) : tVar n σ H Q := ⟨v, h, q⟩
theorem con (q : Q v H) : tC v σ H Q := q
theorem op {r : R2} (h : ta σ H fun x H1 => tb σ H1 fun y H2 => r x y H2 Q) : tOp r ta tb σ H Q := h
theorem un {r : V → Hp → VK → Prop} (h : ta σ H fun x H1 => r x H1 Q) : tUn r ta σ H Q := h
theorem i0 {g : Int → Int → V} (q : Q (g i j) H) : rI0 g (.int i) (.int j) H Q := ⟨i, j, rfl, rfl, q⟩
theorem i2 {C : Int → Int → Prop} {g : Int → Int → V} (c : C i j) (q : Q (g i j) H) : rI C g (.int i) (.int j) H Q := ⟨i, j, rfl, rfl, c, q⟩
theorem u1 {g : Int → V} (q : Q (g i) H) : rU g (.int i) H Q := ⟨i, rfl, q⟩
theorem ixT {p : Addr} {xs : List V} (h : SqT K H p xs) (e : atI xs i = some v) (q : Q v H) : rIxT K (.ref p) (.int i) H Q := ⟨p, xs, i, v, rfl, rfl, h, e, q⟩
theorem ixL {p : Addr} {xs : List V} (h : SqL K H p xs) (e : atI xs i = some v) (q : Q v H) : rIxL K (.ref p) (.int i) H Q := ⟨p, xs, i, v, rfl, rfl, h, e, q⟩
theorem nil {Q : List V → Hp → Prop} (q : Q [] H) : tNil σ H Q := q
theorem cons {tr : TA} {Q : List V → Hp → Prop} (h : ta σ H fun x H1 => tr σ H1 fun xs H2 => Q (x :: xs) H2) : tCons ta tr σ H Q := h
/-- what is wanted of a new tuple, a new list -/
def NwT (H : Hp) (xs : List V) (Q : VK) : Prop := xs.length ≤ sizeLine ∧ ∀ p, H p = none → Q (.ref p) (upd H p (.tup xs))
def NwL (H : Hp) (xs : List V) (Q : VK) : Prop := xs.length ≤ sizeLine ∧ ∀ p, H p = none → Q (.ref p) (upd H p (.lst xs))
def Nw (H : Hp) (xs : List V) (Q : VK) : Prop := ∀ H' t, Same H H' → H' t = some (.tup xs) → Q (.ref t) H'
theorem nw {xs : List V} (h : ∀ H' t, Same H H' → H' t = some (.tup xs) → Q (.ref t) H') : Nw H xs Q := h
def Mt (H : Hp) (xs : List V) (Q : VK) : Prop := ∀ H' p, Same H H' → H p = none → H' p = some (.tup xs) → Q (.ref p) H'
def Ml (H : Hp) (xs : List V) (Q : VK) : Prop := ∀ H' p, Same H H' → H p = none → H' p = some (.lst xs) → Q (.ref p) H'
theorem mt {xs : List V} (h : ∀ H' p, Same H H' → H p = none → H' p = some (.tup xs) → Q (.ref p) H') : Mt H xs Q := h
theorem ml {xs : List V} (h : ∀ H' p, Same H H' → H p = none → H' p = some (.lst xs) → Q (.ref p) H') : Ml H xs Q := h
theorem tup {t : TA} (h : t σ H fun xs H1 => NwT H1 xs Q) : tTup t σ H Q := h
theorem lst {t : TA} (h : t σ H fun xs H1 => NwL H1 xs Q) : tLst t σ H Q := h
theorem nwT {xs : List V} (l : Nat.ble xs.length 1000 = true) (q : Mt H xs Q) : NwT H xs Q :=
  ⟨Nat.le_of_lt (small1000 (Nat.le_of_ble_eq_true l)), fun p n => q _ p (same_upd n) n upd_same⟩
theorem nwL {xs : List V} (l : Nat.ble xs.length 1000 = true) (q : Ml H xs Q) : NwL H xs Q :=
  ⟨Nat.le_of_lt (small1000 (Nat.le_of_ble_eq_true l)), fun p n => q _ p (same_upd n) n upd_same⟩
theorem call {sp : Sp} {dvs : List V} {E : XK} {t : TA} (h : t σ H fun vs H1 => sp (vs ++ dvs) H1 Q E) : tCall sp dvs E t σ H Q := h
theorem callB {r : List V → Hp → VK → Prop} {t : TA} (h : t σ H fun vs H1 => r vs H1 Q) : tCB r t σ H Q := h
theorem gname {n : Nat} {Q : L2.St → Hp → Prop} (h : Q (σ.set n (some v)) H) : gName n v σ H Q := h
theorem gtup {n : Nat} {t : TGs} {a : Addr} {xs : List V} {Q : L2.St → Hp → Prop} (h1 : SqT K H a xs) (h2 : xs.length = n) (h : t xs σ H Q) : gTup K n t (.ref a) σ H Q := ⟨a, xs, rfl, h1, h2, h⟩
theorem gcons {t : TG} {u : TGs} {r : List V} {Q : L2.St → Hp → Prop} (h : t v σ H fun σ' H' => u r σ' H' Q) : gCons t u (v :: r) σ H Q := ⟨v, r, rfl, h⟩
theorem gnil {Q : L2.St → Hp → Prop} (h : Q σ H) : gNil [] σ H Q := ⟨rfl, h⟩
variable {nx : L2.St → Hp → Prop} {rt : VK} {bk ct : L2.St → Hp → Prop} {t u : TS} {c : TT}
theorem seq (h : t (Ends.mk (u (Ends.mk nx rt bk ct)) rt bk ct) σ H) : tSeq t u (Ends.mk nx rt bk ct) σ H := h
theorem asg {g : TG} (h : te σ H fun x H1 => g x σ H1 nx) : tAsg te g (Ends.mk nx rt bk ct) σ H := h
theorem brk (h : bk σ H) : tBreak (Ends.mk nx rt bk ct) σ H := h
theorem cont (h : ct σ H) : tCont (Ends.mk nx rt bk ct) σ H := h
theorem ret (h : te σ H rt) : tRet te (Ends.mk nx rt bk ct) σ H := h
theorem next (h : nx σ H) : tNext (Ends.mk nx rt bk ct) σ H := h
theorem drop (h : te σ H fun _ H1 => nx σ H1) : tDrop te (Ends.mk nx rt bk ct) σ H := h
theorem par {i j : Nat} {ta : TA} (h : ta σ H fun vs H1 => ∃ v w, vs = [v, w] ∧ nx ((σ.set i (some v)).set j (some w)) H1) : tPar i j ta (Ends.mk nx rt bk ct) σ H := h
theorem par3 {i j l : Nat} {ta : TA} (h : ta σ H fun vs H1 => ∃ u v w, vs = [u, v, w] ∧ nx (((σ.set i (some u)).set j (some v)).set l (some w)) H1) : tPar3 i j l ta (Ends.mk nx rt bk ct) σ H := h
theorem par4 {z : V} {P : V → V → V → Prop} (h : P x y z) : ∃ u v w, [x, y, z] = [u, v, w] ∧ P u v w := ⟨x, y, z, rfl, h⟩
theorem par2 {P : V → V → Prop} (h : P x y) : ∃ v w, [x, y] = [v, w] ∧ P v w := ⟨x, y, rfl, h⟩
theorem ifs (h : c σ H fun b H1 => if b = true then t (Ends.mk nx rt bk ct) σ H1 else u (Ends.mk nx rt bk ct) σ H1) : tIfS c t u (Ends.mk nx rt bk ct) σ H := h
theorem tif (h : c σ H fun b H1 => if b = true then ta σ H1 Q else tb σ H1 Q) : tIf c ta tb σ H Q := h
theorem test {Q : Bool → Hp → Prop} (h : te σ H fun x H' => ∃ k, x = .bl k ∧ Q k H') : tTest te σ H Q := h
theorem tb' {Q : Bool → Hp → Prop} (h : te σ H fun x H' => ∃ k, x = .bl k ∧ Q k H') : tB te σ H Q := h
theorem isbl {b : Bool} {P : Bool → Prop} (h : P b) : ∃ k, V.bl b = .bl k ∧ P k := ⟨b, rfl, h⟩
theorem cmp {p : Int → Int → Bool} (h : t2I ta tb (fun i j H2 => Q (.bl (p i j)) H2) σ H) : tCmp p ta tb σ H Q := h
theorem t2i {k : Int → Int → Hp → Prop} (h : ta σ H fun x H1 => tb σ H1 fun y H2 => ∃ i j, x = .int i ∧ y = .int j ∧ k i j H2) : t2I ta tb k σ H := h
theorem intp {k : Int → Int → Prop} (h : k i j) : ∃ a b : Int, V.int i = .int a ∧ V.int j = .int b ∧ k a b := ⟨i, j, rfl, rfl, h⟩
theorem cut {Mid : L2.St → Hp → Prop} (h1 : t (Ends.mk Mid rt bk ct) σ H) (h2 : ∀ σ' H', Mid σ' H' → u (Ends.mk nx rt bk ct) σ' H') : C8.tCut t u (Ends.mk nx rt bk ct) σ H := ⟨Mid, h1, h2⟩
variable {d : TT}
theorem and {Q : Bool → Hp → Prop} (h : c σ H fun k H1 => if k = true then d σ H1 Q else Q false H1) : tAnd c d σ H Q := h
theorem or {Q : Bool → Hp → Prop} (h : c σ H fun k H1 => if k = true then Q true H1 else d σ H1 Q) : tOr c d σ H Q := h
theorem not {Q : Bool → Hp → Prop} (h : c σ H fun k H1 => Q (!k) H1) : tNot c σ H Q := h
theorem andV (h : ta σ H fun x H1 => ∃ c, x = .bl c ∧ if c = true then tb σ H1 Q else Q (.bl false) H1) : tAndV ta tb σ H Q := h
theorem orV (h : ta σ H fun x H1 => ∃ c, x = .bl c ∧ if c = true then Q (.bl true) H1 else tb σ H1 Q) : tOrV ta tb σ H Q := h
theorem notV (h : ta σ H fun x H1 => ∃ c, x = .bl c ∧ Q (.bl (!c)) H1) : tNotV ta σ H Q := h
theorem chain {r r' : R2} {tc : TE} (h : ta σ H fun x H1 => tb σ H1 fun y H2 => r x y H2 fun z H3 => ∃ k, z = .bl k ∧ (if k = true then tc σ H3 fun w' H4 => r' y w' H4 Q else Q (.bl false) H3)) : tChain r r' ta tb tc σ H Q := h
theorem tupL {p : Addr} {ys : List V} (h : SqL K H p ys) (q : Mt H ys Q) : rTupQ K [.ref p] H Q := ⟨p, ys, rfl, .inl ⟨h, fun l n => q _ l (same_upd n) n upd_same⟩⟩
theorem lstL {p : Addr} {ys : List V} (h : SqL K H p ys) (q : Ml H ys Q) : rListQ K [.ref p] H Q := ⟨p, ys, rfl, .inl h, fun l n => q _ l (same_upd n) n upd_same⟩
theorem cat {l b : Addr} {xs zs : List V} (h1 : H l = some (.lst xs)) (h2 : H b = some (.lst zs)) (z : Nat.ble (xs.length + zs.length) 100000 = true) (q : Ml H (xs ++ zs) Q) : rCat (.ref l) (.ref b) H Q :=
  ⟨l, b, xs, zs, rfl, rfl, h1, h2, Nat.le_of_lt (Nat.lt_of_le_of_lt (Nat.le_of_ble_eq_true z) (by decide)), fun p n => q _ p (same_upd n) n upd_same⟩
theorem sl {r : V → Option Int → Option Int → Hp → VK → Prop} {tl th : TO} (h : te σ H fun x H1 => tl σ H1 fun l H2 => th σ H2 fun u H3 => r x l u H3 Q) : tSl r te tl th σ H Q := h
theorem noPart {Q : Option Int → Hp → Prop} (h : Q none H) : tNoPart σ H Q := h
theorem part {Q : Option Int → Hp → Prop} (h : te σ H fun x H1 => ∃ i, x = .int i ∧ Q (some i) H1) : tPart te σ H Q := h
theorem isInt {P : Int → Prop} (h : P i) : ∃ k, V.int i = .int k ∧ P k := ⟨i, rfl, h⟩
theorem slL {a : Addr} {xs : List V} {lo hi : Option Int} (h : SqL K H a xs) (q : Ml H (cutV xs lo hi) Q) : rSlL K (.ref a) lo hi H Q := ⟨a, xs, rfl, h, fun p n => q _ p (same_upd n) n upd_same⟩
theorem absI (q : Q (.int (i.natAbs : Int)) H) : rAbs K [.int i] H Q := ⟨i, rfl, q⟩
theorem intI (q : Q (.int i) H) : rInt K [.int i] H Q := .inl ⟨i, rfl, q⟩
theorem intB {b : Bool} (q : Q (.int (if b then 1 else 0)) H) : rInt K [.bl b] H Q := .inr ⟨b, rfl, q⟩
theorem lenT {p : Addr} {ys : List V} (h : SqT K H p ys) (q : Q (.int (ys.length : Int)) H) : rLenQ K [.ref p] H Q := ⟨p, ys, rfl, .inr h, q⟩
theorem lenL {p : Addr} {ys : List V} (h : SqL K H p ys) (q : Q (.int (ys.length : Int)) H) : rLenQ K [.ref p] H Q := ⟨p, ys, rfl, .inl h, q⟩
theorem eqS {a b : Str} (q : Q (.bl (decide (V.str a = V.str b))) H) : rEq (.str a) (.str b) H Q := ⟨rfl, q⟩
theorem eqBl {a b : Bool} (q : Q (.bl (decide (V.bl a = V.bl b))) H) : rEq (.bl a) (.bl b) H Q := ⟨rfl, q⟩
theorem neBl {a b : Bool} (q : Q (.bl (!decide (V.bl a = V.bl b))) H) : rNe (.bl a) (.bl b) H Q := ⟨rfl, q⟩
theorem isiTupS {a : Addr} {xs : List V} (h : SqT K H a xs) (q : Q (.bl true) H) : rIsi K [.ref a, .ty "tuple"] H Q := by
  rcases h with (h | ⟨o, h⟩) | ⟨o, its, n, h1, h2, _⟩
  · exact Wc.isiTup h q
  · exact ⟨_, _, _, _, true, rfl, ClsV.ty _, TyX.fTuple h, kit_ty (by decide +kernel), q⟩
  · exact ⟨_, _, _, _, true, rfl, ClsV.ty _, TyX.kTuple h1 h2, kit_ty (by decide +kernel), q⟩
theorem slT {a : Addr} {xs : List V} {lo hi : Option Int} (h : SqT K H a xs) (n : ¬ (HT.sIx xs.length 0 lo = 0 ∧ HT.sIx xs.length xs.length hi = xs.length)) (q : Mt H (cutV xs lo hi) Q) : rSlT K (.ref a) lo hi H Q := ⟨a, xs, rfl, h, n, fun p nn => q _ p (same_upd nn) nn upd_same⟩
theorem isiT {b : Bool} (q : Q (.bl true) H) : rIsi K [.bl b, .ty "bool"] H Q := Wc.isiT q
theorem isiTup {a : Addr} {xs : List V} (h : H a = some (.tup xs)) (q : Q (.bl true) H) : rIsi K [.ref a, .ty "tuple"] H Q := Wc.isiTup h q
theorem isiLst {a : Addr} {xs : List V} (h : H a = some (.lst xs)) (q : Q (.bl true) H) : rIsi K [.ref a, .ty "list"] H Q := Wc.isiLst h q
/-! == of tuples of ints -/
theorem eqB {ns ms : List Int} : PyData.eqv (.tuple (ns.map PyData.int)) (.tuple (ms.map PyData.int)) = decide (ns = ms) := by
  have h : ∀ ns ms : List Int, PyData.eqvAll (ns.map PyData.int) (ms.map PyData.int) = decide (ns = ms) := by
    intro ns
    induction ns with
    | nil => intro ms; cases ms <;> simp [PyData.eqvAll]
    | cons n ns ih => intro ms; cases ms with
      | nil => simp [PyData.eqvAll]
      | cons m ms =>
        rw [List.map_cons, List.map_cons, PyData.eqvAll, ih]
        by_cases h : n = m
        · simp [PyData.eqv, h]
        · simp [PyData.eqv, h]
  rw [PyData.eqv]
  exact h ns ms
theorem eqTs {p q : Addr} {ns ms : List Int} {b : Bool} (h1 : SqT K H p (ns.map V.int)) (h2 : SqT K H q (ms.map V.int)) (hb : b = decide (ns = ms)) (h : Q (.bl b) H) : rEqD K (.ref p) (.ref q) H Q :=
  ⟨_, _, .tup h1 (dp_ints ns), .tup h2 (dp_ints ms), shaped_intsT ns, shaped_intsT ms, by rw [eqB, ← hb]; exact h⟩
theorem neTs {p q : Addr} {ns ms : List Int} {b : Bool} (h1 : SqT K H p (ns.map V.int)) (h2 : SqT K H q (ms.map V.int)) (hb : b = decide (ns = ms)) (h : Q (.bl (!b)) H) : rNeD K (.ref p) (.ref q) H Q :=
  ⟨_, _, .tup h1 (dp_ints ns), .tup h2 (dp_ints ms), shaped_intsT ns, shaped_intsT ms, by rw [eqB, ← hb]; exact h⟩
variable {p q : Addr} {a b c d a' b' c' d' : Int}
theorem eq2 (h1 : SqT K H p [.int a, .int b]) (h2 : SqT K H q [.int a', .int b']) (h : Q (.bl (decide (a = a' ∧ b = b'))) H) : rEqD K (.ref p) (.ref q) H Q :=
  eqTs (ns := [a, b]) (ms := [a', b']) h1 h2 (by simp) h
theorem ne2 (h1 : SqT K H p [.int a, .int b]) (h2 : SqT K H q [.int a', .int b']) (h : Q (.bl (!decide (a = a' ∧ b = b'))) H) : rNeD K (.ref p) (.ref q) H Q :=
  neTs (ns := [a, b]) (ms := [a', b']) h1 h2 (by simp) h
theorem eq3 (h1 : SqT K H p [.int a, .int b, .int c]) (h2 : SqT K H q [.int a', .int b', .int c']) (h : Q (.bl (decide (a = a' ∧ b = b' ∧ c = c'))) H) : rEqD K (.ref p) (.ref q) H Q :=
  eqTs (ns := [a, b, c]) (ms := [a', b', c']) h1 h2 (by simp) h
theorem ne3 (h1 : SqT K H p [.int a, .int b, .int c]) (h2 : SqT K H q [.int a', .int b', .int c']) (h : Q (.bl (!decide (a = a' ∧ b = b' ∧ c = c'))) H) : rNeD K (.ref p) (.ref q) H Q :=
  neTs (ns := [a, b, c]) (ms := [a', b', c']) h1 h2 (by simp) h
theorem eq4 (h1 : SqT K H p [.int a, .int b, .int c, .int d]) (h2 : SqT K H q [.int a', .int b', .int c', .int d']) (h : Q (.bl (decide (a = a' ∧ b = b' ∧ c = c' ∧ d = d'))) H) : rEqD K (.ref p) (.ref q) H Q :=
  eqTs (ns := [a, b, c, d]) (ms := [a', b', c', d']) h1 h2 (by simp) h
theorem ne4 (h1 : SqT K H p [.int a, .int b, .int c, .int d]) (h2 : SqT K H q [.int a', .int b', .int c', .int d']) (h : Q (.bl (!decide (a = a' ∧ b = b' ∧ c = c' ∧ d = d'))) H) : rNeD K (.ref p) (.ref q) H Q :=
  neTs (ns := [a, b, c, d]) (ms := [a', b', c', d']) h1 h2 (by simp) h
/-! loops over ranges, comprehensions -/
def ForJ (J : It) (g : TG) (tb : TS) (D : Ends) (σ : L2.St) (H1 : Hp) : Prop := tFor (fun _ Hs R => R J Hs) g tb D σ H1
theorem forE {wi : TI} {g : TG} {tb : TS} {D : Ends} (h : wi σ H fun J H1 => ForJ J g tb D σ H1) : tFor wi g tb D σ H := h
def RgOne (vs : List V) (P : Int → Prop) : Prop := ∃ j : Int, vs = [.int j] ∧ -(2 ^ 62) ≤ j ∧ j < 2 ^ 62 ∧ P j
def RgTwo (vs : List V) (P : Int → Int → Prop) : Prop := ∃ i j : Int, vs = [.int i, .int j] ∧ (-(2 ^ 62) ≤ i ∧ i < 2 ^ 62 ∧ -(2 ^ 62) ≤ j ∧ j < 2 ^ 62) ∧ P i j
theorem rng1 {ta : TA} {R : It → Hp → Prop} (h : ta σ H fun vs H1 => RgOne vs fun j => R (Itr 0 j.toNat) H1) : iRng1 ta σ H R := h
theorem rng2 {ta : TA} {R : It → Hp → Prop} (h : ta σ H fun vs H1 => RgTwo vs fun i j => R (Itr i (j - i).toNat) H1) : iRng2 ta σ H R := h
theorem rg1 {P : Int → Prop} {j : Int} (h1 : -(2 ^ 62) ≤ j) (h2 : j < 2 ^ 62) (h : P j) : RgOne [.int j] P := ⟨j, rfl, h1, h2, h⟩
theorem rg2 {P : Int → Int → Prop} {i j : Int} (h1 : -(2 ^ 62) ≤ i) (h2 : i < 2 ^ 62) (h3 : -(2 ^ 62) ≤ j) (h4 : j < 2 ^ 62) (h : P i j) : RgTwo [.int i, .int j] P := ⟨i, j, rfl, ⟨h1, h2, h3, h4⟩, h⟩
theorem forN {lo : Int} {n : Nat} {g : TG} {tb : TS} {D : Ends} (Pv : Nat → L2.St → Hp → Prop) (h0 : Pv 0 σ H)
    (hs : ∀ i σ H, i < n → Pv i σ H → g (.int (lo + i)) σ H fun σ2 H2 => tb (Ends.mk (Pv (i + 1)) D.rt D.nx (Pv (i + 1))) σ2 H2) (hd : ∀ σ H, Pv n σ H → D.nx σ H) : ForJ (Itr lo n) g tb D σ H := for_range Pv h0 hs hd
def RefOne (v : V) (P : Addr → Prop) : Prop := ∃ a, v = .ref a ∧ P a
theorem itup {tl : TE} {R : It → Hp → Prop} (h : tl σ H fun x H1 => ∃ a, x = .ref a ∧ (∃ xs, SqT K H1 a xs) ∧ R (Itt K a) H1) : iTup K tl σ H R := h
theorem ilst {tl : TE} {R : It → Hp → Prop} (h : tl σ H fun x H1 => ∃ a, x = .ref a ∧ (∃ xs, SqL K H1 a xs) ∧ R (Itl K a) H1) : iList K tl σ H R := h
theorem refs {p : Addr} {xs : List V} {S : Addr → List V → Prop} {R : Addr → Prop} (h1 : S p xs) (h : R p) : ∃ a, V.ref p = .ref a ∧ (∃ ys, S a ys) ∧ R a := ⟨p, rfl, ⟨xs, h1⟩, h⟩
def LcJ (J : It) (g : TG) (tt : TT) (te : TE) (vs : List Nat) (σ : L2.St) (H1 : Hp) (Q : VK) : Prop := tLc (fun _ Hs R => R J Hs) g tt te vs σ H1 Q
theorem lcE {wi : TI} {g : TG} {tt : TT} {vs : List Nat} (h : wi σ H fun J H1 => LcJ J g tt te vs σ H1 Q) : tLc wi g tt te vs σ H Q := h
/-- [int for k in range(n)], each of them by c draws -/
theorem lcI {p a : Addr} {N c n : Nat} {lo : Int} {g : TG} {vs : List Nat} (P : Int → Prop) (hn : n ≤ 900) (d : Dw H p a N)
    (hs : ∀ i H' (Q' : VK), i < n → Dw H' p a (N + c * i) → Kp p H H' → (∀ x H4, P x → Dw H4 p a (N + c * i + c) → Kp p H' H4 → Q' (.int x) H4) → g (.int (lo + i)) (wipe σ vs) H' fun σ2 H2 => wipe σ2 vs = wipe σ vs ∧ te σ2 H2 Q')
    (hq : ∀ H' D (xs : List Int), H' D = some (.lst (xs.map V.int)) → xs.length = n → (∀ x ∈ xs, P x) → Dw H' p a (N + c * n) → Kp p H H' → H D = none → D ≠ p → Q (.ref D) H') : LcJ (Itr lo n) g tYes te vs σ H Q := by
  intro D nD
  have Dp := (d.ne nD).1
  have Da := (d.ne nD).2
  refine lc_range (lo := lo) (n := n) (fun i H' => ∃ xs : List Int, H' D = some (.lst (xs.map V.int)) ∧ xs.length = i ∧ (∀ x ∈ xs, P x) ∧ Dw H' p a (N + c * i) ∧ Kp p H H')
    ⟨[], upd_same, rfl, (fun x h => nomatch h), (d.new nD).mono (by omega), same_kp (same_upd nD)⟩ (fun i H5 hi ⟨xs, h1, h2, h3, h4, h5⟩ => ?_) (fun H5 ⟨xs, h1, h2, h3, h4, h5⟩ => hq H5 D xs h1 h2 h3 h4 h5 nD Dp)
  refine hs i H5 _ hi h4 h5 (fun x H4 px d4 k4 => ⟨_, k4 _ _ Dp h1, ?_, xs ++ [x], ?_, ?_, ?_, ?_, ?_⟩)
  · rw [List.length_map]
    exact small1000 (by omega)
  · rw [upd_same, List.map_append]
    rfl
  · rw [List.length_append, h2]
    rfl
  · intro z hz
    rcases List.mem_append.mp hz with hz | hz
    · exact h3 z hz
    · rw [List.mem_singleton.mp hz]
      exact px
  · have e : N + c * (i + 1) = N + c * i + c := by rw [Nat.mul_add, Nat.mul_one, Nat.add_assoc]
    rw [e]
    exact d4.mut Dp Da
  · intro b o hb e
    have e2 := k4 _ _ hb (h5 _ _ hb e)
    rw [upd_ne (ne_of_none e nD)]
    exact e2
/-- [f(x) for x in a tuple (a list) of ints] -/
theorem lcT {a : Addr} {ns : List Int} {g : TG} {vs : List Nat} (f : Int → Int) (hl : ns.length ≤ 900) (hT : SqT K H a (ns.map V.int))
    (hs : ∀ n H' (Q' : VK), n ∈ ns → Same H H' → Q' (.int (f n)) H' → g (.int n) (wipe σ vs) H' fun σ2 H2 => wipe σ2 vs = wipe σ vs ∧ te σ2 H2 Q')
    (hq : ∀ H' D, H' D = some (.lst ((ns.map f).map V.int)) → Same H H' → H D = none → Q (.ref D) H') : LcJ (Itt K a) g tYes te vs σ H Q := by
  intro D nD
  refine lc_tup (K := K) (a := a) (xs := ns.map V.int) (fun i H' => H' D = some (.lst (((ns.take i).map f).map V.int)) ∧ Same H H') ⟨upd_same, same_upd nD⟩ (fun i H' _ h => same_seqT h.2 hT) (fun i x H5 hx ⟨h1, h5⟩ => ?_) (fun H5 ⟨h1, h5⟩ => ?_)
  · rw [List.getElem?_map] at hx
    cases hn : ns[i]? with
    | none =>
      rw [hn] at hx
      cases hx
    | some n =>
      rw [hn] at hx
      cases hx
      refine hs n H5 _ (List.mem_of_getElem? hn) h5 ⟨_, h1, ?_, ?_, ?_⟩
      · rw [List.length_map, List.length_map, List.length_take]
        exact small1000 (by omega)
      · rw [upd_same, List.take_add_one, hn, List.map_append, List.map_append]
        rfl
      · exact same_mut h5 nD
  · rw [List.length_map, List.take_length] at h1
    exact hq H5 D h1 h5 nD
end
theorem isEq {α : Sort _} {a b : α} (h : a = b) : a = b := h
theorem bm {σ : L2.St} {H : Hp} {Q : VK} {T : String} {r : V → List V → Hp → VK → Prop} {to : TE} {t : TA} {K : PySem.W.Frag} (h : to σ H fun x H1 => tyV K T x H1 ∧ t σ H1 fun xs H2 => r x xs H2 Q) : tBM K T r to t σ H Q := h
theorem bmT {H : Hp} {K : PySem.W.Frag} {p : Addr} {xs : List V} {B : Prop} (h1 : H p = some (.lst xs)) (h2 : B) : tyV K "list" (.ref p) H ∧ B := ⟨.inl ⟨rfl, _, SqL.of h1⟩, h2⟩
theorem app {H : Hp} {Q : VK} {l : Addr} {xs : List V} {y : V} (h : H l = some (.lst xs)) (z : xs.length ≤ 1000000) (q : ∀ H', H' = upd H l (.lst (xs ++ [y])) → H' l = some (.lst (xs ++ [y])) → Q .non H') : rAppend (.ref l) [y] H Q :=
  ⟨l, xs, y, rfl, rfl, h, Nat.lt_of_le_of_lt z (by decide), q _ rfl upd_same⟩
theorem dput {σ : L2.St} {H : Hp} {td ty tv : TE} {nx : L2.St → Hp → Prop} {rt : VK} {bk ct : L2.St → Hp → Prop} (h : tv σ H fun v H1 => td σ H1 fun x H2 => ty σ H2 fun y H3 => ∃ a H4, x = .ref a ∧ DPut H3 a y v H4 ∧ nx σ H4) : sDPut td ty tv (Ends.mk nx rt bk ct) σ H := h
theorem dget {σ : L2.St} {H : Hp} {Q : VK} {td ty : TE} (h : td σ H fun x H1 => ty σ H1 fun y H2 => ∃ a v, x = .ref a ∧ DGet H2 a y (some v) ∧ Q v H2) : tDGet td ty σ H Q := h
theorem din {σ : L2.St} {H : Hp} {Q : VK} {td ty : TE} (h : ty σ H fun y H1 => td σ H1 fun x H2 => ∃ a o, x = .ref a ∧ DGet H2 a y o ∧ Q (.bl o.isSome) H2) : tDIn ty td σ H Q := h
theorem dget2 {σ : L2.St} {H : Hp} {Q : VK} {td ty tx : TE} (h : td σ H fun x H1 => ∃ a, x = .ref a ∧ IsD H1 a ∧ ty σ H1 fun y H2 => tx σ H2 fun z H3 => ∃ o, DGet H3 a y o ∧ Q (o.getD z) H3) : tDGet2 td ty tx σ H Q := h
/-! slots behind many stores -/
def LenOk (n : Nat) (σ : L2.St) : Prop := n < σ.length
theorem lenS {n m : Nat} {σ : L2.St} {x : Option V} (h : LenOk n σ) : LenOk n (σ.set m x) := by
  unfold LenOk at *
  rw [List.length_set]
  exact h
theorem lenB {n : Nat} {σ : L2.St} (h : Nat.ble (n + 1) σ.length = true) : LenOk n σ := Nat.le_of_ble_eq_true h
theorem gsE {n : Nat} {σ : L2.St} {x r : Option V} (h : LenOk n σ) (e : some x = some r) : (σ.set n x)[n]? = some r := by
  rw [List.getElem?_set_self h]
  exact e
theorem gsN {n m : Nat} {σ : L2.St} {x : Option V} {r : Option (Option V)} (h : Nat.beq m n = false) (e : σ[n]? = r) : (σ.set m x)[n]? = r := by
  rw [List.getElem?_set_ne (fun z => by rw [z, Nat.beq_refl] at h; cases h)]
  exact e
theorem isLeI {a b : Int} (h : a ≤ b) : a ≤ b := h
theorem cdiv {i j : Int} (h : decide (0 < j ∧ j < 1073741824) = true) : CDiv i j := of_decide_eq_true (p := 0 < j ∧ j < 1073741824) h
theorem cpow {i j : Int} (h : decide (0 ≤ j ∧ j ≤ 1000000 ∧ i.natAbs < 2 ^ 64) = true) : CPow i j := of_decide_eq_true (p := 0 ≤ j ∧ j ≤ 1000000 ∧ i.natAbs < 2 ^ 64) h
theorem gBd {n : Nat} {x : Int} (h : Bd n x) : Bd n x := h
theorem gSqT {K : PySem.W.Frag} {H : Hp} {a : Addr} {xs : List V} (h : SqT K H a xs) : SqT K H a xs := h
theorem notT {A B : Prop} (h : B) : if (!true) = true then A else B := h
theorem notF {A B : Prop} (h : A) : if (!false) = true then A else B := h
theorem isNe {α : Sort _} {a b : α} (h : a ≠ b) : a ≠ b := h
theorem cdivX {n : Nat} {i j : Int} (h1 : j ≠ 0) (h2 : Bd n j) (l : Nat.ble n 9000 = true) : CDivX i j := ⟨h1, Nat.lt_of_lt_of_le h2 (Nat.pow_le_pow_right (by decide) (Nat.le_of_ble_eq_true l))⟩
theorem isLe {a b : Nat} (h : a ≤ b) : a ≤ b := h
theorem isLtI {a b : Int} (h : a < b) : a < b := h
theorem isLt {a b : Nat} (h : a < b) : a < b := h
end R
/-! unpacking of a list -/
theorem pgU {X : Cx} (K : PySem.W.Frag) (n : Nat) {es : List Expr} {k : Nat} {pos : Pos} {t : TGs} (hc : X.calm = true) (h : PGs X es t) (hn : (assignEach es X.env).length = n := by rfl) (hst : (assignEach es X.env).findIdx? (·.1) = none := by rfl) (hK : X.K = K := by rfl) : PG X (.Tuple es k pos) (gUnl K n t) := by
  subst hK
  exact pg_unl hc h hn hst
theorem r_gunl {K : PySem.W.Frag} {σ : L2.St} {H : Hp} {n : Nat} {t : TGs} {a : Addr} {xs : List V} {Q : L2.St → Hp → Prop} (h1 : SqL K H a xs) (h2 : xs.length = n) (h : t xs σ H Q) : gUnl K n t (.ref a) σ H Q := ⟨a, xs, rfl, h1, h2, h⟩

/-! ### lists of tuples of ints -/
def tD (t : List Int) : PyData := .tuple (t.map PyData.int)
inductive Tps (K : PySem.W.Frag) (H : Hp) : List V → List (List Int) → Prop where
  | nil : Tps K H [] []
  | cons {a : Addr} {t : List Int} {vs : List V} {ts : List (List Int)} : SqT K H a (t.map V.int) → Tps K H vs ts → Tps K H (.ref a :: vs) (t :: ts)
theorem Tps.kt {K : PySem.W.Frag} {H H' : Hp} (s : KT K H H') : ∀ {vs : List V} {ts : List (List Int)}, Tps K H vs ts → Tps K H' vs ts
  | _, _, .nil => .nil
  | _, _, .cons h t => .cons (s _ _ h) (t.kt s)
theorem Tps.same {K : PySem.W.Frag} {H H' : Hp} {vs : List V} {ts : List (List Int)} (h : Tps K H vs ts) (s : Same H H') : Tps K H' vs ts := h.kt (same_kt s)
theorem Tps.len {K : PySem.W.Frag} {H : Hp} : ∀ {vs : List V} {ts : List (List Int)}, Tps K H vs ts → vs.length = ts.length
  | _, _, .nil => rfl
  | _, _, .cons _ t => by rw [List.length_cons, List.length_cons, t.len]
theorem Tps.app {K : PySem.W.Frag} {H : Hp} : ∀ {vs ws : List V} {ts us : List (List Int)}, Tps K H vs ts → Tps K H ws us → Tps K H (vs ++ ws) (ts ++ us)
  | _, _, _, _, .nil, h => h
  | _, _, _, _, .cons a t, h => .cons a (t.app h)
theorem Tps.snoc {K : PySem.W.Frag} {H : Hp} {vs : List V} {ts : List (List Int)} {a : Addr} {t : List Int} (h : Tps K H vs ts) (s : SqT K H a (t.map V.int)) : Tps K H (vs ++ [.ref a]) (ts ++ [t]) := h.app (.cons s .nil)
theorem Tps.at {K : PySem.W.Frag} {H : Hp} : ∀ {vs : List V} {ts : List (List Int)} {i : Nat} {x : V}, Tps K H vs ts → vs[i]? = some x → ∃ a t, x = .ref a ∧ ts[i]? = some t ∧ SqT K H a (t.map V.int)
  | _, _, _, _, .nil, h => by cases h
  | _, _, 0, _, .cons s t, h => by
    cases h
    exact ⟨_, _, rfl, rfl, s⟩
  | _, _, i + 1, _, .cons s t, h => t.at (i := i) h
theorem Tps.dp {K : PySem.W.Frag} {H : Hp} : ∀ {vs : List V} {ts : List (List Int)}, Tps K H vs ts → DpAll K H vs (ts.map tD)
  | _, _, .nil => .nil
  | _, _, .cons h t => .cons (.tup h (dp_ints _)) t.dp
theorem lay_tups : ∀ ts : List (List Int), PyData.canLayAll0 (ts.map tD) = true
  | [] => rfl
  | t :: ts => by
    rw [List.map_cons, PyData.canLayAll0, lay_tups ts]
    unfold tD
    rw [PyData.canLay0, lay_ints]
    rfl
theorem depth_tups : ∀ ts : List (List Int), PyData.depthAll (ts.map tD) ≤ 1
  | [] => by rw [List.map_nil, PyData.depthAll]; decide
  | t :: ts => by
    rw [List.map_cons, PyData.depthAll]
    unfold tD
    rw [PyData.depth, depth_ints]
    exact Nat.max_le.mpr ⟨by decide, depth_tups ts⟩
theorem shaped_tups (ts : List (List Int)) : SeqAt.shaped (.list (ts.map tD)) = true := by
  show (PyData.canLay0 (.list (ts.map tD)) && decide (PyData.depth (.list (ts.map tD)) ≤ 64)) = true
  rw [Bool.and_eq_true]
  refine ⟨by rw [PyData.canLay0]; exact lay_tups ts, decide_eq_true ?_⟩
  rw [PyData.depth]
  have := depth_tups ts
  omega
theorem shaped_tupsT (ts : List (List Int)) : SeqAt.shaped (.tuple (ts.map tD)) = true := by
  show (PyData.canLay0 (.tuple (ts.map tD)) && decide (PyData.depth (.tuple (ts.map tD)) ≤ 64)) = true
  rw [Bool.and_eq_true]
  refine ⟨by rw [PyData.canLay0]; exact lay_tups ts, decide_eq_true ?_⟩
  rw [PyData.depth]
  have := depth_tups ts
  omega
theorem eqvAll_tups : ∀ ts us : List (List Int), PyData.eqvAll (ts.map tD) (us.map tD) = decide (ts = us)
  | [], [] => by simp [PyData.eqvAll]
  | [], _ :: _ => by simp [PyData.eqvAll]
  | _ :: _, [] => by simp [PyData.eqvAll]
  | t :: ts, u :: us => by
    rw [List.map_cons, List.map_cons, PyData.eqvAll, eqvAll_tups ts us]
    unfold tD
    rw [R.eqB]
    by_cases h : t = u <;> simp [h]
theorem any_tups (t : List Int) : ∀ ts : List (List Int), (ts.map tD).any (fun z => PyData.eqv z (tD t)) = decide (t ∈ ts)
  | [] => by simp
  | u :: ts => by
    rw [List.map_cons, List.any_cons, any_tups t ts]
    have e : PyData.eqv (tD u) (tD t) = decide (u = t) := R.eqB
    rw [e]
    by_cases h : u = t
    · subst h
      simp
    · have h2 : ¬ t = u := fun z => h z.symm
      by_cases h3 : t ∈ ts <;> simp [h, h2, h3]
namespace R
theorem eqTps {K : PySem.W.Frag} {H : Hp} {Q : VK} {p q : Addr} {vs ws : List V} {ts us : List (List Int)} (h1 : SqL K H p vs) (t1 : Tps K H vs ts) (h2 : SqL K H q ws) (t2 : Tps K H ws us) (h : Q (.bl (decide (ts = us))) H) : rEqD K (.ref p) (.ref q) H Q := by
  refine ⟨_, _, .lst h1 t1.dp, .lst h2 t2.dp, shaped_tups _, shaped_tups _, ?_⟩
  rw [PyData.eqv, eqvAll_tups]
  exact h
theorem neTps {K : PySem.W.Frag} {H : Hp} {Q : VK} {p q : Addr} {vs ws : List V} {ts us : List (List Int)} (h1 : SqL K H p vs) (t1 : Tps K H vs ts) (h2 : SqL K H q ws) (t2 : Tps K H ws us) (h : Q (.bl (!decide (ts = us))) H) : rNeD K (.ref p) (.ref q) H Q := by
  refine ⟨_, _, .lst h1 t1.dp, .lst h2 t2.dp, shaped_tups _, shaped_tups _, ?_⟩
  rw [PyData.eqv, eqvAll_tups]
  exact h
theorem notInT {K : PySem.W.Frag} {H : Hp} {Q : VK} {p q : Addr} {vs : List V} {t : List Int} {ts : List (List Int)} (h1 : SqT K H p (t.map V.int)) (h2 : SqL K H q vs) (t2 : Tps K H vs ts) (h : Q (.bl (!decide (t ∈ ts))) H) : rNotInD K (.ref p) (.ref q) H Q := by
  refine ⟨_, _, .tup h1 (dp_ints _), .lst h2 t2.dp, shaped_intsT _, shaped_tups _, ?_⟩
  have e := any_tups t ts
  unfold tD at e
  rw [show (ts.map tD) = ts.map fun t => .tuple (t.map PyData.int) from rfl, e]
  exact h
theorem inT {K : PySem.W.Frag} {H : Hp} {Q : VK} {p q : Addr} {vs : List V} {t : List Int} {ts : List (List Int)} (h1 : SqT K H p (t.map V.int)) (h2 : SqL K H q vs) (t2 : Tps K H vs ts) (h : Q (.bl (decide (t ∈ ts))) H) : rInD K (.ref p) (.ref q) H Q := by
  refine ⟨_, _, .tup h1 (dp_ints _), .lst h2 t2.dp, shaped_intsT _, shaped_tups _, ?_⟩
  have e := any_tups t ts
  unfold tD at e
  rw [show (ts.map tD) = ts.map fun t => .tuple (t.map PyData.int) from rfl, e]
  exact h
end R
theorem room65 {k : Nat} {A : Around} (r : Room k A) : A.units + 65 < cLine := by
  have := r.un
  omega
theorem notInDQ {X : Cx} (K : PySem.W.Frag) (hu : X.A.units + 65 < cLine) (h : X.K = K := by rfl) : OpR X (compareOp .NotIn) (rNotInD K) := by
  subst h
  exact op_notInD hu
theorem inDQ {X : Cx} (K : PySem.W.Frag) (hu : X.A.units + 65 < cLine) (h : X.K = K := by rfl) : OpR X (compareOp .In) (rInD K) := by
  subst h
  exact op_inD hu

/-! ### whole roots -/
section
variable {X : Cx}
theorem cr_isqrt : CallR X (.builtin "math.isqrt") (fun vs H Q => ∃ i : Int, vs = [.int i] ∧ 0 ≤ i ∧ i.natAbs < 2 ^ 13000 ∧ Q (.int ((Float64.isqrt i.toNat : Nat) : Int)) H) := by
  intro pins s σ H vs us Q I r h
  obtain ⟨i, rfl, h0, h1, q⟩ := h
  obtain ⟨u, rfl, t, rfl⟩ := vals1 r
  have hl : i.toNat.log2 < 13000 := PySem.Flt.log2_lt_of (by decide) (by omega)
  exact call_function_meets PySem.W.MGF.kind_isqrt PySem.W.MGF.plain_isqrt PySem.W.MGF.entry_isqrt (PySem.W.MGF.args_isqrt _) (PySem.W.mg_run_isqrt i t (by omega) (by omega) (by omega)).meets ⟨.int _, H, I.tok _, ⟨_, rfl⟩, q⟩
end
def rootI (n : Int) : Int := ((Float64.isqrt n.toNat : Nat) : Int)
theorem rootI_spec {n : Int} (h : 0 ≤ n) : 0 ≤ rootI n ∧ rootI n * rootI n ≤ n ∧ n < (rootI n + 1) * (rootI n + 1) := by
  obtain ⟨k, rfl⟩ := Int.eq_ofNat_of_zero_le h
  have e := Float64.isqrt_spec k
  unfold rootI
  have e2 : Int.toNat (k : Int) = k := rfl
  rw [e2]
  generalize Float64.isqrt k = m at e ⊢
  refine ⟨Int.natCast_nonneg m, ?_, ?_⟩
  · exact_mod_cast e.1
  · exact_mod_cast e.2
theorem rootI_lt {n : Int} {b : Nat} (h : 0 ≤ n) (hb : n.natAbs < 2 ^ b) : (rootI n).natAbs < 2 ^ b := by
  obtain ⟨h0, h1, h2⟩ := rootI_spec h
  have h3 : rootI n ≤ n := by
    by_cases e : rootI n = 0
    · omega
    · have h4 : 1 * rootI n ≤ rootI n * rootI n := Int.mul_le_mul_of_nonneg_right (by omega) h0
      omega
  omega
/-! ### common measures -/
def gI (a b : Int) : Int := ((Nat.gcd a.natAbs b.natAbs : Nat) : Int)
theorem gI_nn (a b : Int) : 0 ≤ gI a b := Int.natCast_nonneg _
theorem gI_lt {a b : Int} {B : Nat} (ha : a.natAbs < B) (hb : b.natAbs < B) : (gI a b).natAbs < B := by
  unfold gI
  rw [Int.natAbs_natCast]
  by_cases h : a.natAbs = 0
  · rw [h, Nat.gcd_zero_left]
    exact hb
  · exact Nat.lt_of_le_of_lt (Nat.gcd_le_left _ (by omega)) ha
def gL (ns : List Int) : Int := ns.foldl gI 0
theorem gL_take {ns : List Int} {i : Nat} {x : Int} (h : ns[i]? = some x) : gL (ns.take (i + 1)) = gI (gL (ns.take i)) x := by
  unfold gL
  rw [List.take_add_one, h, List.foldl_append]
  rfl
/-- one step of the walk of measures: what // and the rest are -/
theorem fd_rest {g r : Int} (h : r ≠ 0) : (g - g.fdiv r * r).natAbs < r.natAbs ∧ (0 < r → 0 ≤ g - g.fdiv r * r) ∧ (r < 0 → g - g.fdiv r * r ≤ 0) := by
  have e : g - g.fdiv r * r = g.fmod r := by
    rw [Int.fmod_def, Int.mul_comm]
  rw [e]
  by_cases hr : 0 < r
  · have h1 := Int.fmod_nonneg_of_pos g hr
    have h2 := Int.fmod_lt_of_pos g hr
    refine ⟨by omega, fun _ => h1, fun _ => by omega⟩
  · have h1 := Int.fmod_nonneg_of_pos (-g) (b := -r) (by omega)
    have h2 := Int.fmod_lt_of_pos (-g) (b := -r) (by omega)
    rw [Int.neg_fmod_neg] at h1 h2
    refine ⟨by omega, fun _ => by omega, fun _ => by omega⟩
theorem gcd_step (g q r : Int) : Nat.gcd r.natAbs (g - q * r).natAbs = Nat.gcd g.natAbs r.natAbs := by
  have e1 : Int.gcd r (g - q * r) = Int.gcd r g := by
    rw [Int.sub_eq_add_neg, ← Int.neg_mul]
    exact Int.gcd_add_mul_right_right ..
  have e2 : Int.gcd r g = Int.gcd g r := Int.gcd_comm r g
  exact e1.trans e2
theorem step_lt {g rest u ru q r B : Nat} (hg : g = q * rest + r) (h : ru * g + u * rest ≤ B) : (u + q * ru) * rest + ru * r ≤ B := by
  have e : (u + q * ru) * rest + ru * r = ru * g + u * rest := by
    rw [hg, Nat.add_mul, Nat.mul_add, Nat.mul_comm q ru, Nat.mul_assoc]
    omega
  omega
/-- the state of bezout's walk -/
def Bz (a b g u v r ru rv : Int) : Prop := u * a + v * b = g ∧ ru * a + rv * b = r ∧ (((Nat.gcd g.natAbs r.natAbs : Nat) : Int) = gI a b ∧ u.natAbs ≤ a.natAbs + 2 * b.natAbs + 1 ∧ v.natAbs ≤ a.natAbs + 2 * b.natAbs + 1) ∧
  ((g = a ∧ r = b ∧ u = 1 ∧ v = 0 ∧ ru = 0 ∧ rv = 1) ∨
    (((0 ≤ g ∧ 0 ≤ r) ∨ (g ≤ 0 ∧ r ≤ 0)) ∧ g.natAbs ≤ b.natAbs ∧ r.natAbs < g.natAbs ∧
      ru.natAbs * g.natAbs + u.natAbs * r.natAbs ≤ a.natAbs + 2 * b.natAbs ∧ rv.natAbs * g.natAbs + v.natAbs * r.natAbs ≤ a.natAbs + 2 * b.natAbs))
theorem same_div {g r : Int} (h : (0 ≤ g ∧ 0 < r) ∨ (g ≤ 0 ∧ r < 0)) : g.natAbs = (g.fdiv r).natAbs * r.natAbs + (g - g.fdiv r * r).natAbs := by
  have hr : r ≠ 0 := by omega
  obtain ⟨h1, h2, h3⟩ := fd_rest (g := g) hr
  have hq : 0 ≤ g.fdiv r := by
    rcases h with ⟨a, b⟩ | ⟨a, b⟩
    · exact Int.fdiv_nonneg a (by omega)
    · rw [← Int.neg_fdiv_neg]
      exact Int.fdiv_nonneg (by omega) (by omega)
  obtain ⟨q, e⟩ := Int.eq_ofNat_of_zero_le hq
  rw [e] at h2 h3 ⊢
  rcases h with ⟨a, b⟩ | ⟨a, b⟩
  · have k := h2 b
    have z : g = (q : Int) * r + (g - (q : Int) * r) := by omega
    obtain ⟨r', rfl⟩ := Int.eq_ofNat_of_zero_le (show 0 ≤ r by omega)
    have e2 : ((q * r' : Nat) : Int) = (q : Int) * (r' : Int) := Int.natCast_mul q r'
    rw [Int.natAbs_natCast, Int.natAbs_natCast]
    rw [← e2] at k ⊢
    omega
  · have k := h3 b
    obtain ⟨r', hr'⟩ := Int.eq_ofNat_of_zero_le (show 0 ≤ -r by omega)
    have er : r = -(r' : Int) := by omega
    subst er
    have e2 : ((q * r' : Nat) : Int) = (q : Int) * (r' : Int) := Int.natCast_mul q r'
    rw [Int.mul_neg, ← e2] at k ⊢
    rw [Int.natAbs_natCast, Int.natAbs_neg, Int.natAbs_natCast]
    omega
theorem abs_sub_mul (u q ru : Int) : (u - q * ru).natAbs ≤ u.natAbs + q.natAbs * ru.natAbs := by
  rw [← Int.natAbs_mul]
  omega
theorem natAbs_tri {g q r : Int} (k : (g - q).natAbs < r.natAbs) : q.natAbs ≤ g.natAbs + r.natAbs := by omega
theorem bz_q {g r : Int} (hr : r ≠ 0) : (g.fdiv r).natAbs ≤ g.natAbs + 1 ∧ (g.fdiv r).natAbs * r.natAbs ≤ g.natAbs + r.natAbs := by
  obtain ⟨k1, _, _⟩ := fd_rest (g := g) hr
  have z2 : (g.fdiv r).natAbs * r.natAbs ≤ g.natAbs + r.natAbs := by
    rw [← Int.natAbs_mul]
    exact natAbs_tri k1
  have r1 : 1 ≤ r.natAbs := by omega
  clear k1 hr
  refine ⟨?_, z2⟩
  generalize (g.fdiv r).natAbs = q at *
  generalize g.natAbs = G at *
  generalize r.natAbs = R at *
  by_cases z : q ≤ G + 1
  · exact z
  · have z4 : (G + 2) * R ≤ q * R := Nat.mul_le_mul_right _ (by omega)
    have z5 : G * 1 ≤ G * R := Nat.mul_le_mul_left _ r1
    rw [Nat.add_mul] at z4
    omega
theorem bz_le {A B G R U W q : Nat} (z3 : q ≤ G + 1) (e2 : G ≤ B) (e3 : R < G) (e4 : U * G + W * R ≤ A + 2 * B) : q ≤ A + B + 1 ∧ R ≤ B ∧ U ≤ A + 2 * B + 1 := by
  have z4 : U * 1 ≤ U * G := Nat.mul_le_mul_left _ (by omega)
  exact ⟨by omega, by omega, by omega⟩
theorem Bz.size {a b g u v r ru rv : Int} (h : Bz a b g u v r ru rv) (hr : r ≠ 0) : (g.fdiv r).natAbs ≤ a.natAbs + b.natAbs + 1 ∧ r.natAbs ≤ b.natAbs ∧ ru.natAbs ≤ a.natAbs + 2 * b.natAbs + 1 ∧ rv.natAbs ≤ a.natAbs + 2 * b.natAbs + 1 := by
  obtain ⟨h1, h2, h3, h4⟩ := h
  obtain ⟨z3, z2⟩ := bz_q (g := g) hr
  clear h1 h2 h3
  rcases h4 with ⟨e1, e2, e3, e4, e5, e6⟩ | ⟨e1, e2, e3, e4, e5⟩
  · subst e1 e2 e5 e6
    clear z2 hr e3 e4
    generalize (g.fdiv r).natAbs = q at *
    generalize g.natAbs = G at *
    generalize r.natAbs = R at *
    exact ⟨by omega, Nat.le_refl _, Nat.zero_le _, by show 1 ≤ _; omega⟩
  · obtain ⟨q1, q2, q3⟩ := bz_le z3 e2 e3 e4
    exact ⟨q1, q2, q3, (bz_le z3 e2 e3 e5).2.2⟩
theorem bz_lin (u v a b ru rv q : Int) : (u - q * ru) * a + (v - q * rv) * b = u * a + v * b - q * (ru * a + rv * b) := by
  rw [Int.sub_mul, Int.sub_mul, Int.mul_add, Int.mul_assoc, Int.mul_assoc]
  omega
theorem bz_sg {g r : Int} (hr : r ≠ 0) (h : (0 ≤ g ∧ 0 ≤ r) ∨ (g ≤ 0 ∧ r ≤ 0)) : (0 ≤ g ∧ 0 < r) ∨ (g ≤ 0 ∧ r < 0) := by omega
theorem bz_first {g r : Int} (hr : r ≠ 0) : (0 - g.fdiv r * 1).natAbs * r.natAbs + Int.natAbs 1 * (g - g.fdiv r * r).natAbs ≤ g.natAbs + 2 * r.natAbs := by
  obtain ⟨_, z2⟩ := bz_q (g := g) hr
  obtain ⟨k1, _, _⟩ := fd_rest (g := g) hr
  have z : (0 - g.fdiv r * 1).natAbs = (g.fdiv r).natAbs := by omega
  rw [z, show Int.natAbs 1 = 1 from rfl, Nat.one_mul]
  generalize (g.fdiv r).natAbs * r.natAbs = Y at *
  generalize (g - g.fdiv r * r).natAbs = Z at *
  generalize g.natAbs = G at *
  generalize r.natAbs = R at *
  clear z hr
  omega
theorem Bz.step {a b g u v r ru rv : Int} (h : Bz a b g u v r ru rv) (hr : r ≠ 0) : Bz a b r ru rv (g - g.fdiv r * r) (u - g.fdiv r * ru) (v - g.fdiv r * rv) := by
  have sz := h.size hr
  obtain ⟨h1, h2, h3, h4⟩ := h
  obtain ⟨k1, k2, k3⟩ := fd_rest (g := g) hr
  refine ⟨h2, ?_, ⟨by rw [gcd_step]; exact h3.1, sz.2.2⟩, .inr ⟨?_, ?_, k1, ?_, ?_⟩⟩
  · rw [bz_lin, h1, h2]
  · clear h1 h2 h3 h4 sz k1
    by_cases z : 0 < r
    · exact .inl ⟨Int.le_of_lt z, k2 z⟩
    · exact .inr ⟨Int.not_lt.mp z, k3 (by omega)⟩
  · rcases h4 with ⟨e1, e2, _⟩ | ⟨_, e2, e3, _⟩
    · rw [e2]
      exact Nat.le_refl _
    · exact Nat.le_of_lt (Nat.lt_of_lt_of_le e3 e2)
  · rcases h4 with ⟨e1, e2, e3, e4, e5, e6⟩ | ⟨e1, e2, e3, e4, e5⟩
    · clear h1 h2 h3 sz k1 k2 k3 e1 e4 e6 hr
      rw [e3, e5, e2]
      simp
      omega
    · exact Nat.le_trans (Nat.add_le_add_right (Nat.mul_le_mul_right _ (abs_sub_mul u (g.fdiv r) ru)) _) (step_lt (same_div (bz_sg hr e1)) e4)
  · rcases h4 with ⟨e1, e2, e3, e4, e5, e6⟩ | ⟨e1, e2, e3, e4, e5⟩
    · rw [e4, e6, ← e1, ← e2]
      exact bz_first hr
    · exact Nat.le_trans (Nat.add_le_add_right (Nat.mul_le_mul_right _ (abs_sub_mul v (g.fdiv r) rv)) _) (step_lt (same_div (bz_sg hr e1)) e5)

/-! ### the law's own root -/
theorem rootI_uniq {n r : Int} (h : 0 ≤ n) (h0 : 0 ≤ r) (h1 : r * r ≤ n) (h2 : n < (r + 1) * (r + 1)) : r = rootI n := by
  obtain ⟨k0, k1, k2⟩ := rootI_spec h
  generalize rootI n = s at k0 k1 k2 ⊢
  by_cases a : r < s
  · have z : (r + 1) * (r + 1) ≤ s * s := Int.mul_le_mul (by omega) (by omega) (by omega) (by omega)
    omega
  · by_cases b : s < r
    · have z : (s + 1) * (s + 1) ≤ r * r := Int.mul_le_mul (by omega) (by omega) (by omega) (by omega)
      omega
    · omega
theorem half_step {low high n : Int} {i : Nat} (h : low + 1 < high) (hi : (high - low - 1) * 2 ^ i ≤ n) : ((low + high) / 2 - low - 1) * 2 ^ (i + 1) ≤ n ∧ (high - (low + high) / 2 - 1) * 2 ^ (i + 1) ≤ n ∧ low < (low + high) / 2 ∧ (low + high) / 2 < high := by
  have e : (2 : Int) ^ (i + 1) = 2 * 2 ^ i := by rw [Int.pow_succ, Int.mul_comm]
  have p0 : (0 : Int) < 2 ^ i := Int.pow_pos (by decide)
  rw [e]
  generalize (2 : Int) ^ i = B at hi p0 ⊢
  have m1 : (low + high) / 2 - low - 1 ≤ (high - low - 1) / 2 := by omega
  have m2 : high - (low + high) / 2 - 1 ≤ (high - low - 1) / 2 := by omega
  have m3 : 2 * ((high - low - 1) / 2) ≤ high - low - 1 := by omega
  refine ⟨?_, ?_, by omega, by omega⟩
  · have a1 : ((low + high) / 2 - low - 1) * (2 * B) = (2 * ((low + high) / 2 - low - 1)) * B := by grind
    have a2 : (2 * ((low + high) / 2 - low - 1)) * B ≤ (high - low - 1) * B := Int.mul_le_mul_of_nonneg_right (by omega) (by omega)
    omega
  · have a1 : (high - (low + high) / 2 - 1) * (2 * B) = (2 * (high - (low + high) / 2 - 1)) * B := by grind
    have a2 : (2 * (high - (low + high) / 2 - 1)) * B ≤ (high - low - 1) * B := Int.mul_le_mul_of_nonneg_right (by omega) (by omega)
    omega

/-! ### continued fractions -/
def partI (p q root : Int) : Int := if 0 < q then (p + root).fdiv q else (p + root + 1).fdiv q
def nxt (d root : Int) (s : Int × Int) : Int × Int := (partI s.1 s.2 root * s.2 - s.1, (d - (partI s.1 s.2 root * s.2 - s.1) * (partI s.1 s.2 root * s.2 - s.1)).fdiv s.2)
def cf (d root : Int) (s : Int × Int) : Nat → Int × Int
  | 0 => s
  | k + 1 => nxt d root (cf d root s k)
def cfa (d : Int) (s : Int × Int) (i : Nat) : Int := partI (cf d (rootI d) s i).1 (cf d (rootI d) s i).2 (rootI d)
/-- what the walk of expand wants -/
def ExOk (p q d : Int) (n j : Nat) : Prop := 0 ≤ d ∧ d < 2 ^ 60 ∧ rootI d * rootI d ≠ d ∧ q ≠ 0 ∧ (d - p * p).fmod q = 0 ∧ j < n ∧ n ≤ 100000 ∧ cf d (rootI d) (p, q) n = cf d (rootI d) (p, q) j ∧
  (∀ a b, a < b → b < n → cf d (rootI d) (p, q) a ≠ cf d (rootI d) (p, q) b) ∧ ∀ i, i ≤ n → (cf d (rootI d) (p, q) i).1.natAbs < 2 ^ 60 ∧ (cf d (rootI d) (p, q) i).2.natAbs < 2 ^ 60 ∧ (cf d (rootI d) (p, q) i).2 ≠ 0
def ckey (s : Int × Int) : List Key := [.inl s.1, .inl s.2]
theorem ckey_inj {s t : Int × Int} (h : ckey s = ckey t) : s = t := by
  unfold ckey at h
  injection h with h1 h2
  injection h2 with h2 _
  injection h1 with h1
  injection h2 with h2
  exact Prod.ext h1 h2
def ckv (f : Nat → Int × Int) (n : Nat) : List (List Key × V) := (List.range n).map fun i => (ckey (f i), V.int (i : Int))
theorem ckv_succ (f : Nat → Int × Int) (n : Nat) : ckv f (n + 1) = ckv f n ++ [(ckey (f n), V.int (n : Int))] := by
  unfold ckv
  rw [List.range_succ, List.map_append]
  rfl
theorem ckv_len (f : Nat → Int × Int) (n : Nat) : (ckv f n).length = n := by
  unfold ckv
  rw [List.length_map, List.length_range]
theorem valV_app {κ : Type} [DecidableEq κ] (xs : List (κ × V)) (k : κ) (v : V) (k' : κ) : valV (xs ++ [(k, v)]) k' = (match valV xs k' with | some z => some z | none => if k = k' then some v else none) := by
  unfold valV
  rw [List.find?_append]
  cases h : xs.find? fun kv => decide (kv.1 = k') with
  | some z => rfl
  | none =>
    by_cases e : k = k'
    · simp [e]
    · simp [e]
theorem ckv_none {f : Nat → Int × Int} : ∀ {n : Nat} {s : Int × Int}, (∀ i, i < n → f i ≠ s) → valV (ckv f n) (ckey s) = none
  | 0, _, _ => rfl
  | n + 1, s, h => by
    rw [ckv_succ, valV_app, ckv_none fun i hi => h i (by omega)]
    exact if_neg fun e => h n (by omega) (ckey_inj e)
theorem ckv_some {f : Nat → Int × Int} {s : Int × Int} {j : Nat} (hj : f j = s) : ∀ {n : Nat}, j < n → (∀ i, i < j → f i ≠ s) → valV (ckv f n) (ckey s) = some (.int (j : Int))
  | 0, h, _ => absurd h (by omega)
  | n + 1, h, k => by
    rw [ckv_succ, valV_app]
    by_cases e : j < n
    · rw [ckv_some hj e k]
    · have e1 : j = n := by omega
      subst e1
      rw [ckv_none k]
      exact if_pos (congrArg ckey hj)
theorem ckv_put {f : Nat → Int × Int} {n : Nat} (h : ∀ i, i < n → f i ≠ f n) : putK (ckv f n) (ckey (f n)) (.int (n : Int)) = ckv f (n + 1) := by
  unfold putK
  rw [valV_any, ckv_none h, ckv_succ]
  exact if_neg Bool.false_ne_true
/-! ### reduced pairs -/
structure Red (d root P Q : Int) : Prop where
  q0 : 0 < Q
  p1 : P ≤ root
  lo : root - P < Q
  hi : Q ≤ root + P
  dv : Q ∣ d - P * P
theorem partI_pos {p q root : Int} (h : 0 < q) : partI p q root = (p + root) / q := by
  unfold partI
  rw [if_pos h, Int.fdiv_eq_ediv_of_nonneg _ (by omega)]
theorem nxt_exact {d root P Q : Int} (h : Q ≠ 0) (dv : Q ∣ d - P * P) : (nxt d root (P, Q)).2 * Q = d - (nxt d root (P, Q)).1 * (nxt d root (P, Q)).1 := by
  obtain ⟨c, hc⟩ := dv
  unfold nxt
  show (d - (partI P Q root * Q - P) * (partI P Q root * Q - P)).fdiv Q * Q = d - (partI P Q root * Q - P) * (partI P Q root * Q - P)
  generalize partI P Q root = a
  refine Int.fdiv_mul_cancel_of_fmod_eq_zero (Int.fmod_eq_zero_of_dvd ⟨c - a * a * Q + 2 * a * P, ?_⟩)
  grind
theorem Red.step {d root P Q : Int} (r0 : 0 ≤ root) (h1 : root * root < d) (h2 : d < (root + 1) * (root + 1)) (R : Red d root P Q) : Red d root (nxt d root (P, Q)).1 (nxt d root (P, Q)).2 := by
  have ex := nxt_exact (root := root) (Int.ne_of_gt R.q0) R.dv
  obtain ⟨q0, p1, lo, hi, dv⟩ := R
  have e1 : (nxt d root (P, Q)).1 = (P + root) / Q * Q - P := by
    unfold nxt
    show partI P Q root * Q - P = _
    rw [partI_pos q0]
  generalize (nxt d root (P, Q)).1 = P' at ex e1 ⊢
  generalize (nxt d root (P, Q)).2 = Q' at ex ⊢
  have a1 : (P + root) / Q * Q ≤ P + root := Int.ediv_mul_le _ (by omega)
  have a2 : P + root < (P + root) / Q * Q + Q := by
    have z := Int.lt_ediv_add_one_mul_self (P + root) q0
    rw [Int.add_mul, Int.one_mul] at z
    exact z
  have a3 : 1 ≤ (P + root) / Q := by
    have z : 1 * Q ≤ P + root := by omega
    exact (Int.le_ediv_iff_mul_le q0).mpr z
  have a4 : 1 * Q ≤ (P + root) / Q * Q := Int.mul_le_mul_of_nonneg_right a3 (by omega)
  generalize (P + root) / Q * Q = aQ at a1 a2 a4 e1
  have b1 : P' ≤ root := by omega
  have b2 : root - Q < P' := by omega
  have b3 : -root < P' := by omega
  have b4 : Q ≤ root + P' := by omega
  have c1 : P' * P' ≤ root * root := by
    have z : 0 ≤ (root - P') * (root + P') := Int.mul_nonneg (by omega) (by omega)
    have z2 : (root - P') * (root + P') = root * root - P' * P' := by grind
    omega
  have c2 : 0 < Q' * Q := by omega
  have c3 : 0 < Q' := by
    by_cases z : 0 < Q'
    · exact z
    · have z2 : Q' * Q ≤ 0 * Q := Int.mul_le_mul_of_nonneg_right (by omega) (by omega)
      omega
  refine ⟨c3, b1, ?_, ?_, ?_⟩
  · by_cases z : root - P' < Q'
    · exact z
    · have z2 : Q' * Q ≤ (root - P') * (root + P') := Int.mul_le_mul (by omega) b4 (by omega) (by omega)
      have z3 : (root - P') * (root + P') = root * root - P' * P' := by grind
      omega
  · by_cases z : Q' ≤ root + P'
    · exact z
    · have z2 : (root + P' + 1) * (root - P' + 1) ≤ Q' * Q := Int.mul_le_mul (by omega) (by omega) (by omega) (by omega)
      have z3 : (root + P' + 1) * (root - P' + 1) = (root + 1) * (root + 1) - P' * P' := by grind
      omega
  · exact ⟨Q, by omega⟩
theorem Red.back {d root P Q P2 Q2 : Int} (R : Red d root P Q) (S : Red d root P2 Q2) (r0 : 0 ≤ root) (h1 : root * root < d) (h2 : d < (root + 1) * (root + 1)) (e : nxt d root (P, Q) = nxt d root (P2, Q2)) : P = P2 ∧ Q = Q2 := by
  have ex := nxt_exact (root := root) (Int.ne_of_gt R.q0) R.dv
  have ex2 := nxt_exact (root := root) (Int.ne_of_gt S.q0) S.dv
  have N := R.step r0 h1 h2
  have e1 : (nxt d root (P, Q)).1 = partI P Q root * Q - P := rfl
  have e2 : (nxt d root (P2, Q2)).1 = partI P2 Q2 root * Q2 - P2 := rfl
  rw [← e] at ex2 e2
  have n0 := N.q0
  generalize (nxt d root (P, Q)).1 = P' at ex ex2 e1 e2
  generalize (nxt d root (P, Q)).2 = Q' at ex ex2 n0
  have eq : Q = Q2 := Int.eq_of_mul_eq_mul_left (Int.ne_of_gt n0) (ex.trans ex2.symm)
  subst eq
  refine ⟨?_, rfl⟩
  have l1 := R.lo
  have l2 := S.lo
  have u1 := R.p1
  have u2 := S.p1
  have q0 := R.q0
  generalize partI P Q root = a at e1
  generalize partI P2 Q root = b at e2
  have e3 : (a - b) * Q = P - P2 := by
    rw [Int.sub_mul]
    omega
  by_cases z : a - b ≤ -1
  · have z2 : (a - b) * Q ≤ -1 * Q := Int.mul_le_mul_of_nonneg_right z (by omega)
    omega
  · by_cases z' : 1 ≤ a - b
    · have z2 : 1 * Q ≤ (a - b) * Q := Int.mul_le_mul_of_nonneg_right z' (by omega)
      omega
    · have z2 : a - b = 0 := by omega
      rw [z2, Int.zero_mul] at e3
      omega
/-! ### the root of d: from (0, 1) -/
section
variable {d root : Int}
theorem cf_one (hq : True) : cf d root (0, 1) 1 = (root, d - root * root) := by
  show nxt d root (0, 1) = _
  unfold nxt
  show (partI 0 1 root * 1 - 0, (d - (partI 0 1 root * 1 - 0) * (partI 0 1 root * 1 - 0)).fdiv 1) = _
  have e : partI 0 1 root * 1 - 0 = root := by
    rw [partI_pos (by decide)]
    simp
  rw [e, Int.fdiv_one]
theorem cf_red (r0 : 0 ≤ root) (h1 : root * root < d) (h2 : d < (root + 1) * (root + 1)) : ∀ k, Red d root (cf d root (0, 1) (k + 1)).1 (cf d root (0, 1) (k + 1)).2
  | 0 => by
    rw [cf_one trivial]
    have e : (root + 1) * (root + 1) = root * root + 2 * root + 1 := by grind
    exact ⟨by show 0 < d - root * root; omega, by show root ≤ root; omega, by show root - root < d - root * root; omega, by show d - root * root ≤ root + root; omega, ⟨1, by show d - root * root = (d - root * root) * 1; omega⟩⟩
  | k + 1 => (cf_red r0 h1 h2 k).step r0 h1 h2
theorem cf_exact (r0 : 0 ≤ root) (h1 : root * root < d) (h2 : d < (root + 1) * (root + 1)) : ∀ k, (cf d root (0, 1) (k + 1)).2 * (cf d root (0, 1) k).2 = d - (cf d root (0, 1) (k + 1)).1 * (cf d root (0, 1) (k + 1)).1
  | 0 => by
    rw [cf_one trivial]
    show (d - root * root) * 1 = d - root * root
    omega
  | k + 1 => by
    have R := cf_red r0 h1 h2 k
    exact nxt_exact (P := (cf d root (0, 1) (k + 1)).1) (Q := (cf d root (0, 1) (k + 1)).2) (Int.ne_of_gt R.q0) R.dv
theorem cf_again (l : Nat) (h : (cf d root (0, 1) l).2 = 1) : cf d root (0, 1) (l + 1) = cf d root (0, 1) 1 := by
  rw [cf_one trivial]
  show nxt d root (cf d root (0, 1) l) = _
  unfold nxt
  rw [h]
  generalize (cf d root (0, 1) l).1 = P
  have e : partI P 1 root * 1 - P = root := by
    rw [partI_pos (by decide)]
    simp
    omega
  rw [e, Int.fdiv_one]
theorem cf_shift (l : Nat) (h : (cf d root (0, 1) l).2 = 1) : ∀ k, cf d root (0, 1) (l + (k + 1)) = cf d root (0, 1) (k + 1)
  | 0 => cf_again l h
  | k + 1 => by
    show nxt d root (cf d root (0, 1) (l + (k + 1))) = nxt d root (cf d root (0, 1) (k + 1))
    rw [cf_shift l h k]
theorem cf_unlike (r0 : 0 ≤ root) (h1 : root * root < d) (h2 : d < (root + 1) * (root + 1)) {l : Nat} (hm : ∀ k, 1 ≤ k → k < l → (cf d root (0, 1) k).2 ≠ 1) : ∀ j i, j < i → i ≤ l → cf d root (0, 1) j ≠ cf d root (0, 1) i
  | 0, i, hij, hl, e => by
    obtain ⟨k, rfl⟩ : ∃ k, i = k + 1 := ⟨i - 1, by omega⟩
    have R := cf_red r0 h1 h2 k
    rw [← e] at R
    have a := R.lo
    have b := R.hi
    have a2 : root - 0 < 1 := a
    have b2 : (1 : Int) ≤ root + 0 := b
    omega
  | 1, i, hij, hl, e => by
    obtain ⟨k, rfl⟩ : ∃ k, i = k + 2 := ⟨i - 2, by omega⟩
    have x := cf_exact r0 h1 h2 (k + 1)
    have R := cf_red r0 h1 h2 (k + 1)
    have x2 : (cf d root (0, 1) (k + 2)).2 * (cf d root (0, 1) (k + 1)).2 = d - (cf d root (0, 1) (k + 2)).1 * (cf d root (0, 1) (k + 2)).1 := x
    rw [← e, cf_one trivial] at x2
    have x3 : (d - root * root) * (cf d root (0, 1) (k + 1)).2 = (d - root * root) * 1 := by
      have y : (d - root * root) * (cf d root (0, 1) (k + 1)).2 = d - root * root := x2
      omega
    exact hm (k + 1) (by omega) (by omega) (Int.eq_of_mul_eq_mul_left (by omega) x3)
  | j + 2, i, hij, hl, e => by
    obtain ⟨k, rfl⟩ : ∃ k, i = k + 2 := ⟨i - 2, by omega⟩
    have b := (cf_red r0 h1 h2 j).back (cf_red r0 h1 h2 k) r0 h1 h2 e
    exact cf_unlike r0 h1 h2 hm (j + 1) (k + 1) (by omega) (by omega) (Prod.ext b.1 b.2)
end
/-! ### convergents -/
def cstep (s : (Int × Int) × (Int × Int)) (a : Int) : (Int × Int) × (Int × Int) := (s.2, (a * s.2.1 + s.1.1, a * s.2.2 + s.1.2))
def cst (ns : List Int) : (Int × Int) × (Int × Int) := ns.foldl cstep ((0, 1), (1, 0))
def cvl (ns : List Int) : List (Int × Int) := (List.range ns.length).map fun i => (cst (ns.take (i + 1))).2
theorem cst_take {ns : List Int} {i : Nat} {x : Int} (h : ns[i]? = some x) : cst (ns.take (i + 1)) = cstep (cst (ns.take i)) x := by
  unfold cst
  rw [List.take_add_one, h, List.foldl_append]
  rfl
theorem cvl_take {ns : List Int} {i : Nat} (h : i < ns.length) : cvl (ns.take (i + 1)) = cvl (ns.take i) ++ [(cst (ns.take (i + 1))).2] := by
  unfold cvl
  have e1 : (ns.take (i + 1)).length = i + 1 := by rw [List.length_take]; omega
  have e2 : (ns.take i).length = i := by rw [List.length_take]; omega
  rw [e1, e2, List.range_succ, List.map_append]
  congr 1
  · refine List.map_congr_left fun k hk => ?_
    have hk' : k < i := List.mem_range.mp hk
    rw [List.take_take, List.take_take, Nat.min_eq_left (by omega), Nat.min_eq_left (by omega)]
  · show [(cst ((ns.take (i + 1)).take (i + 1))).2] = _
    rw [List.take_take, Nat.min_self]
inductive Prs (H : Hp) : List Addr → List (Int × Int) → Prop
  | nil : Prs H [] []
  | cons {a : Addr} {p : Int × Int} {as : List Addr} {ps : List (Int × Int)} : H a = some (.tup [.int p.1, .int p.2]) → Prs H as ps → Prs H (a :: as) (p :: ps)
theorem Prs.same {H H' : Hp} {as : List Addr} {ps : List (Int × Int)} (h : Prs H as ps) (s : Same H H') : Prs H' as ps := by
  induction h with
  | nil => exact .nil
  | cons e _ ih => exact .cons (s _ _ e) ih
theorem Prs.mono {H H' : Hp} {as : List Addr} {ps : List (Int × Int)} (h : Prs H as ps) (s : ∀ b xs, H b = some (.tup xs) → H' b = some (.tup xs)) : Prs H' as ps := by
  induction h with
  | nil => exact .nil
  | cons e _ ih => exact .cons (s _ _ e) ih
theorem Prs.snoc {H : Hp} {as : List Addr} {ps : List (Int × Int)} {a : Addr} {p : Int × Int} (h : Prs H as ps) (e : H a = some (.tup [.int p.1, .int p.2])) : Prs H (as ++ [a]) (ps ++ [p]) := by
  induction h with
  | nil => exact .cons e .nil
  | cons e' _ ih => exact .cons e' ih
theorem Prs.len {H : Hp} {as : List Addr} {ps : List (Int × Int)} (h : Prs H as ps) : as.length = ps.length := by
  induction h with
  | nil => rfl
  | cons _ _ ih => rw [List.length_cons, List.length_cons, ih]
def pdI (p : Int × Int) : PyData := .tuple [.int p.1, .int p.2]
theorem Prs.dp {K : PySem.W.Frag} {H : Hp} {as : List Addr} {ps : List (Int × Int)} (h : Prs H as ps) : DpAll K H (as.map V.ref) (ps.map pdI) := by
  induction h with
  | nil => exact .nil
  | cons e _ ih => exact .cons (.tup (SqT.of e) (.cons (.int _) (.cons (.int _) .nil))) ih
theorem lay_prs : ∀ ps : List (Int × Int), PyData.canLayAll0 (ps.map pdI) = true
  | [] => rfl
  | p :: ps => by
    rw [List.map_cons, PyData.canLayAll0, lay_prs ps]
    rfl
theorem depth_prs : ∀ ps : List (Int × Int), PyData.depthAll (ps.map pdI) ≤ 1
  | [] => Nat.zero_le _
  | p :: ps => by
    rw [List.map_cons, PyData.depthAll]
    have h := depth_prs ps
    have e : (pdI p).depth = 1 := by
      unfold pdI
      rw [PyData.depth]
      rfl
    omega
theorem shaped_prs (ps : List (Int × Int)) : SeqAt.shaped (.list (ps.map pdI)) = true := by
  show (PyData.canLay0 (.list (ps.map pdI)) && decide (PyData.depth (.list (ps.map pdI)) ≤ 64)) = true
  rw [Bool.and_eq_true]
  refine ⟨by rw [PyData.canLay0]; exact lay_prs ps, decide_eq_true ?_⟩
  rw [PyData.depth]
  have h := depth_prs ps
  omega
theorem Prs.at {H : Hp} {as : List Addr} {ps : List (Int × Int)} (h : Prs H as ps) : ∀ {i : Nat} {p : Int × Int}, ps[i]? = some p → ∃ a, as[i]? = some a ∧ H a = some (.tup [.int p.1, .int p.2]) := by
  induction h with
  | nil => intro i p e; simp at e
  | @cons a q as ps e _ ih =>
    intro i p e2
    cases i with
    | zero =>
      have e3 : q = p := Option.some.inj e2
      subst e3
      exact ⟨a, rfl, e⟩
    | succ i => exact ih e2
theorem at_end {α : Type} {xs : List α} {v : α} (h : xs[xs.length - 1]? = some v) : atI xs (-1) = some v := by
  have hl : 0 < xs.length := by
    cases xs with
    | nil => cases h
    | cons x r => exact Nat.succ_pos _
  have e : ixN xs.length (-1) = some (xs.length - 1) := by
    unfold ixN
    rw [if_neg (by decide), if_pos (by omega)]
    congr 1
    omega
  unfold atI
  rw [e]
  exact h
/-! ### pell -/
def aL (d : Int) (k : Nat) : List Int := (List.range k).map (cfa d (0, 1))
theorem aL_succ (d : Int) (k : Nat) : aL d (k + 1) = aL d k ++ [cfa d (0, 1) k] := by
  unfold aL
  rw [List.range_succ, List.map_append]
  rfl
theorem aL_len (d : Int) (k : Nat) : (aL d k).length = k := by
  unfold aL
  rw [List.length_map, List.length_range]
theorem aL_at {d : Int} {k i : Nat} (h : i < k) : (aL d k)[i]? = some (cfa d (0, 1) i) := by
  unfold aL
  rw [List.getElem?_map, List.getElem?_range h]
  rfl
theorem cst_aL (d : Int) (k : Nat) : cst (aL d (k + 1)) = cstep (cst (aL d k)) (cfa d (0, 1) k) := by
  unfold cst
  rw [aL_succ, List.foldl_append]
  rfl
def sg (k : Nat) : Int := if k % 2 = 0 then 1 else -1
theorem sg_succ (k : Nat) : sg (k + 1) = -sg k := by
  unfold sg
  by_cases h : k % 2 = 0
  · rw [if_pos h, if_neg (by omega)]
  · rw [if_neg h, if_pos (by omega)]
    rfl
theorem nrm_q (Q1 Q2 P P2 d a R : Int) (h0 : Q1 ≠ 0) (hR : R*Q1 = d - P*P) (hQ2 : Q2*Q1 = d - P2*P2) (hP : P2 = a*Q1 - P) : Q2 = R + a*(P - P2) := by
  have z : (Q2 - (R + a*(P-P2)))*Q1 = 0 := by grind
  rcases Int.mul_eq_zero.mp z with h | h
  · omega
  · exact absurd h h0
theorem nrm_step (a p q e d P P2 Q1 Q2 R p0 q0 : Int) (h0 : Q1 ≠ 0) (h1 : p*p - d*(q*q) = e*Q1) (h2 : p*p0 - d*(q*q0) = -(e*P)) (h3 : p0*p0 - d*(q0*q0) = -(e*R)) (hP : P2 = a*Q1 - P) (hR : R*Q1 = d - P*P) (hQ2 : Q2*Q1 = d - P2*P2) :
    (a*p+p0)*(a*p+p0) - d*((a*q+q0)*(a*q+q0)) = -(e*Q2) ∧ (a*p+p0)*p - d*((a*q+q0)*q) = e*P2 := by
  have hQ : Q2 = R + a*(P - P2) := nrm_q Q1 Q2 P P2 d a R h0 hR hQ2 hP
  clear hQ2 hR h0
  constructor <;> grind
/-- d lies between two squares, and the walk of its root comes to the denominator 1 at l first -/
structure PellOk (d : Int) (l : Nat) : Prop where
  d0 : 0 < d
  d1 : d < 10001
  ns : rootI d * rootI d ≠ d
  l0 : 1 ≤ l
  l1 : l ≤ 40000
  one : (cf d (rootI d) (0, 1) l).2 = 1
  least : ∀ k, 1 ≤ k → k < l → (cf d (rootI d) (0, 1) k).2 ≠ 1
section
variable {d : Int} {l : Nat}
theorem PellOk.sq (h : PellOk d l) : 0 ≤ rootI d ∧ rootI d * rootI d < d ∧ d < (rootI d + 1) * (rootI d + 1) ∧ rootI d ≤ 100 := by
  have h0 := h.d0
  have h1 := h.d1
  have h2 := h.ns
  obtain ⟨a, b, c⟩ := rootI_spec (n := d) (by omega)
  refine ⟨a, by omega, c, ?_⟩
  by_cases z : rootI d ≤ 100
  · exact z
  · have e : 101 * 101 ≤ rootI d * rootI d := Int.mul_le_mul (by omega) (by omega) (by omega) (by omega)
    omega
theorem PellOk.red (h : PellOk d l) (k : Nat) : Red d (rootI d) (cf d (rootI d) (0, 1) (k + 1)).1 (cf d (rootI d) (0, 1) (k + 1)).2 := by
  obtain ⟨a, b, c, e⟩ := h.sq
  exact cf_red a b c k
theorem PellOk.size (h : PellOk d l) (k : Nat) : 0 ≤ (cf d (rootI d) (0, 1) k).1 ∧ (cf d (rootI d) (0, 1) k).1 ≤ 100 ∧ 0 < (cf d (rootI d) (0, 1) k).2 ∧ (cf d (rootI d) (0, 1) k).2 ≤ 200 := by
  obtain ⟨a, b, c, e⟩ := h.sq
  cases k with
  | zero => exact ⟨by show (0 : Int) ≤ 0; omega, by show (0 : Int) ≤ 100; omega, by show (0 : Int) < 1; omega, by show (1 : Int) ≤ 200; omega⟩
  | succ k =>
    have R := h.red k
    have r1 := R.q0
    have r2 := R.p1
    have r3 := R.lo
    have r4 := R.hi
    omega
theorem PellOk.part (h : PellOk d l) (k : Nat) : 0 ≤ cfa d (0, 1) k ∧ cfa d (0, 1) k ≤ 200 := by
  obtain ⟨a, b, c, e⟩ := h.sq
  obtain ⟨s1, s2, s3, s4⟩ := h.size k
  unfold cfa
  rw [partI_pos s3]
  have z := Int.ediv_le_self (a := (cf d (rootI d) (0, 1) k).1 + rootI d) (cf d (rootI d) (0, 1) k).2 (by omega)
  exact ⟨Int.ediv_nonneg (by omega) (by omega), by omega⟩
theorem PellOk.ex (h : PellOk d l) : ExOk 0 1 d (l + 1) 1 := by
  obtain ⟨a, b, c, e⟩ := h.sq
  have h0 := h.d0
  have h1 := h.d1
  have hl := h.l0
  have hl1 := h.l1
  refine ⟨by omega, by show d < 1152921504606846976; omega, h.ns, by decide, ?_, by omega, by omega, cf_again l h.one, fun i j hij hj => cf_unlike a b c h.least i j hij (by omega), fun i _ => ?_⟩
  · exact Int.fmod_one _
  · obtain ⟨s1, s2, s3, s4⟩ := h.size i
    exact ⟨by show _ < 1152921504606846976; omega, by show _ < 1152921504606846976; omega, by omega⟩
theorem PellOk.period (h : PellOk d l) : ∀ k, cf d (rootI d) (0, 1) (k + 1) = cf d (rootI d) (0, 1) (k % l + 1) := by
  intro k
  have hl := h.l0
  induction k using Nat.strongRecOn with
  | _ k ih =>
    by_cases hk : k < l
    · rw [Nat.mod_eq_of_lt hk]
    · have e := cf_shift l h.one (k - l)
      have e2 : l + (k - l + 1) = k + 1 := by omega
      rw [e2] at e
      rw [e, ih (k - l) (by omega)]
      have e3 : k % l = (k - l) % l := Nat.mod_eq_sub_mod (by omega)
      rw [e3]
theorem PellOk.nrm (h : PellOk d l) : ∀ k, (cst (aL d k)).2.1 * (cst (aL d k)).2.1 - d * ((cst (aL d k)).2.2 * (cst (aL d k)).2.2) = sg k * (cf d (rootI d) (0, 1) k).2 ∧ (cst (aL d k)).2.1 * (cst (aL d k)).1.1 - d * ((cst (aL d k)).2.2 * (cst (aL d k)).1.2) = -(sg k * (cf d (rootI d) (0, 1) k).1) ∧
    ∃ R, (cst (aL d k)).1.1 * (cst (aL d k)).1.1 - d * ((cst (aL d k)).1.2 * (cst (aL d k)).1.2) = -(sg k * R) ∧ R * (cf d (rootI d) (0, 1) k).2 = d - (cf d (rootI d) (0, 1) k).1 * (cf d (rootI d) (0, 1) k).1
  | 0 => ⟨by show (1 : Int) * 1 - d * (0 * 0) = 1 * 1; omega, by show (1 : Int) * 0 - d * (0 * 1) = -(1 * 0); omega, d, by show (0 : Int) * 0 - d * (1 * 1) = -(1 * d); omega, by show d * 1 = d - 0 * 0; omega⟩
  | k + 1 => by
    obtain ⟨h1, h2, R, h3, h4⟩ := h.nrm k
    obtain ⟨a, b, c, e⟩ := h.sq
    have x := cf_exact a b c k
    obtain ⟨s1, s2, s3, s4⟩ := h.size k
    have hP : (cf d (rootI d) (0, 1) (k + 1)).1 = cfa d (0, 1) k * (cf d (rootI d) (0, 1) k).2 - (cf d (rootI d) (0, 1) k).1 := rfl
    obtain ⟨n1, n2⟩ := nrm_step _ _ _ _ _ _ _ _ _ _ _ _ (by omega) h1 h2 h3 hP h4 x
    rw [cst_aL, sg_succ]
    refine ⟨?_, ?_, (cf d (rootI d) (0, 1) k).2, ?_, ?_⟩
    · rw [Int.neg_mul]
      exact n1
    · rw [Int.neg_mul, Int.neg_neg]
      exact n2
    · rw [Int.neg_mul, Int.neg_neg]
      exact h1
    · rw [Int.mul_comm]
      exact x
theorem PellOk.wide (h : PellOk d l) : ∀ k, (cst (aL d k)).1.1.natAbs ≤ 2 ^ (8 * k) ∧ (cst (aL d k)).1.2.natAbs ≤ 2 ^ (8 * k) ∧ (cst (aL d k)).2.1.natAbs ≤ 2 ^ (8 * k) ∧ (cst (aL d k)).2.2.natAbs ≤ 2 ^ (8 * k)
  | 0 => by
    show Int.natAbs 0 ≤ 1 ∧ Int.natAbs 1 ≤ 1 ∧ Int.natAbs 1 ≤ 1 ∧ Int.natAbs 0 ≤ 1
    decide
  | k + 1 => by
    obtain ⟨h1, h2, h3, h4⟩ := h.wide k
    obtain ⟨a0, a1⟩ := h.part k
    rw [cst_aL]
    have e : (2 : Nat) ^ (8 * (k + 1)) = 2 ^ (8 * k) * 256 := by
      rw [Nat.mul_add, Nat.pow_add]
    rw [e]
    have st : ∀ x y : Int, x.natAbs ≤ 2 ^ (8 * k) → y.natAbs ≤ 2 ^ (8 * k) → (cfa d (0, 1) k * x + y).natAbs ≤ 2 ^ (8 * k) * 256 := by
      intro x y hx hy
      have z1 : (cfa d (0, 1) k * x).natAbs = (cfa d (0, 1) k).natAbs * x.natAbs := Int.natAbs_mul _ _
      have z2 : (cfa d (0, 1) k).natAbs * x.natAbs ≤ 200 * 2 ^ (8 * k) := Nat.mul_le_mul (by omega) hx
      generalize (2 : Nat) ^ (8 * k) = B at hx hy z2 ⊢
      omega
    exact ⟨by show (cst (aL d k)).2.1.natAbs ≤ _; omega, by show (cst (aL d k)).2.2.natAbs ≤ _; omega, st _ _ h3 h1, st _ _ h4 h2⟩
/-- how many parts pell takes -/
def pellN (l : Nat) : Nat := if l % 2 = 1 then 2 * l else l
theorem PellOk.hit (h : PellOk d l) {k : Nat} (hk : k < pellN l) : (cst (aL d (k + 1))).2.1 * (cst (aL d (k + 1))).2.1 - d * ((cst (aL d (k + 1))).2.2 * (cst (aL d (k + 1))).2.2) = 1 ↔ k + 1 = pellN l := by
  rw [(h.nrm (k + 1)).1]
  obtain ⟨s1, s2, s3, s4⟩ := h.size (k + 1)
  have hl := h.l0
  have per := h.period k
  have q1 : (cf d (rootI d) (0, 1) (k + 1)).2 = 1 ↔ (k + 1) % l = 0 := by
    by_cases z : k % l + 1 < l
    · have lm := h.least (k % l + 1) (by omega) z
      rw [← per] at lm
      have e : (k + 1) % l = k % l + 1 := by
        rw [Nat.add_mod, Nat.mod_eq_of_lt (show 1 < l by omega), Nat.mod_eq_of_lt z]
      exact ⟨fun y => absurd y lm, fun y => by omega⟩
    · have zl := Nat.mod_lt k (show 0 < l by omega)
      have e2 : k % l + 1 = l := by omega
      have e : (k + 1) % l = 0 := by
        have e3 := Nat.div_add_mod k l
        have e4 : k + 1 = l * (k / l + 1) := by
          rw [Nat.mul_add]
          omega
        rw [e4]
        exact Nat.mul_mod_right _ _
      rw [per, e2]
      exact ⟨fun _ => e, fun _ => h.one⟩
  have sgn : ∀ n, sg n = 1 ∨ sg n = -1 := fun n => by
    unfold sg
    split
    · exact .inl rfl
    · exact .inr rfl
  have s5 : sg (k + 1) * (cf d (rootI d) (0, 1) (k + 1)).2 = 1 ↔ (k + 1) % 2 = 0 ∧ (k + 1) % l = 0 := by
    rw [← q1]
    unfold sg
    by_cases z : (k + 1) % 2 = 0
    · rw [if_pos z]
      exact ⟨fun y => ⟨z, by omega⟩, fun y => by omega⟩
    · rw [if_neg z]
      exact ⟨fun y => by omega, fun y => absurd y.1 z⟩
  rw [s5]
  unfold pellN at hk ⊢
  by_cases odd : l % 2 = 1
  · rw [if_pos odd] at hk ⊢
    constructor
    · rintro ⟨y1, y2⟩
      obtain ⟨c, hc⟩ := Nat.dvd_of_mod_eq_zero y2
      have c1 : c ≠ 1 := fun z => by
        rw [z] at hc
        omega
      have c2 : c ≠ 0 := fun z => by
        rw [z] at hc
        omega
      have c3 : l * 2 ≤ l * c := Nat.mul_le_mul_left _ (by omega)
      omega
    · intro y
      rw [y]
      exact ⟨by omega, Nat.mod_eq_zero_of_dvd ⟨2, by omega⟩⟩
  · rw [if_neg odd] at hk ⊢
    constructor
    · rintro ⟨y1, y2⟩
      obtain ⟨c, hc⟩ := Nat.dvd_of_mod_eq_zero y2
      have c2 : c ≠ 0 := fun z => by
        rw [z] at hc
        omega
      have c3 : l * 1 ≤ l * c := Nat.mul_le_mul_left _ (by omega)
      omega
    · intro y
      rw [y]
      exact ⟨by omega, Nat.mod_self l⟩
end

/-! ### forms -/
def dsc (a b c : Int) : Int := b * b - 4 * a * c
def fA (a b c p r : Int) : Int := a * p * p + b * p * r + c * r * r
def fB (a b c p q r s : Int) : Int := 2 * a * p * q + b * (p * s + q * r) + 2 * c * r * s
theorem actA (a b c p q r s x y : Int) : fA (fA a b c p r) (fB a b c p q r s) (fA a b c q s) x y = fA a b c (p * x + q * y) (r * x + s * y) := by
  unfold fA fB
  grind
theorem actB (a b c p q r s x y z w : Int) : fB (fA a b c p r) (fB a b c p q r s) (fA a b c q s) x z y w = fB a b c (p * x + q * y) (p * z + q * w) (r * x + s * y) (r * z + s * w) := by
  unfold fA fB
  grind
theorem dsc_act (a b c p q r s : Int) : dsc (fA a b c p r) (fB a b c p q r s) (fA a b c q s) = dsc a b c * ((p * s - q * r) * (p * s - q * r)) := by
  unfold dsc fA fB
  grind
theorem act_mid (a b c p q r s : Int) : a * (p + q) * (p + q) + b * (p + q) * (r + s) + c * (r + s) * (r + s) - (a * p * p + b * p * r + c * r * r) - (a * q * q + b * q * s + c * s * s) = 2 * a * p * q + b * (p * s + q * r) + 2 * c * r * s := by
  grind
def kindS (d : Int) : Str := if d < 0 then "definite" else if d = 0 then "flat" else if rootI d * rootI d = d then "split" else "indefinite"
/-- the forms that the law draws -/
def sortS (ind : Bool) : Str := if ind then "indefinite" else "definite"
def FormOk (ind : Bool) (a b c : Int) : Prop := a.natAbs ≤ 5 ∧ b.natAbs ≤ 6 ∧ c.natAbs ≤ 5 ∧ kindS (dsc a b c) = sortS ind
theorem kindS_ind {d : Int} (h : kindS d = "indefinite") : 0 < d ∧ rootI d * rootI d ≠ d := by
  unfold kindS at h
  by_cases z : d < 0
  · rw [if_pos z] at h
    exact absurd h (by decide)
  · rw [if_neg z] at h
    by_cases y : d = 0
    · rw [if_pos y] at h
      exact absurd h (by decide)
    · rw [if_neg y] at h
      by_cases x : rootI d * rootI d = d
      · rw [if_pos x] at h
        exact absurd h (by decide)
      · exact ⟨by omega, x⟩
theorem kindS_def {d : Int} (h : kindS d = "definite") : d < 0 := by
  unfold kindS at h
  by_cases z : d < 0
  · exact z
  · rw [if_neg z] at h
    by_cases y : d = 0
    · rw [if_pos y] at h
      exact absurd h (by decide)
    · rw [if_neg y] at h
      by_cases x : rootI d * rootI d = d
      · rw [if_pos x] at h
        exact absurd h (by decide)
      · rw [if_neg x] at h
        exact absurd h (by decide)
theorem uLawRoot0 {n : Int} (h : 0 ≤ n) : 0 ≤ rootI n ∧ rootI n ≤ n := by
  obtain ⟨a, b, c⟩ := rootI_spec h
  refine ⟨a, ?_⟩
  by_cases z : rootI n = 0
  · omega
  · have := Int.mul_le_mul_of_nonneg_right (show 1 ≤ rootI n by omega) a
    omega
theorem mul3 {x y z : Int} {X Y Z : Nat} (h1 : x.natAbs ≤ X) (h2 : y.natAbs ≤ Y) (h3 : z.natAbs ≤ Z) : (x * y * z).natAbs ≤ X * Y * Z := by
  rw [Int.natAbs_mul, Int.natAbs_mul]
  exact Nat.mul_le_mul (Nat.mul_le_mul h1 h2) h3
theorem abs3_le {x y z : Int} {Z : Nat} (h1 : x.natAbs ≤ Z) (h2 : y.natAbs ≤ Z) (h3 : z.natAbs ≤ Z) : (x + y + z).natAbs ≤ 3 * Z := by omega
theorem abs4_le {x y z w : Int} {Z : Nat} (h1 : x.natAbs ≤ Z) (h2 : y.natAbs ≤ Z) (h3 : z.natAbs ≤ Z) (h4 : w.natAbs ≤ Z) : (2 * x + y + z + 2 * w).natAbs ≤ 6 * Z := by omega
theorem act_size {a b c p q r s : Int} {C M : Nat} (ha : a.natAbs ≤ C) (hb : b.natAbs ≤ C) (hc : c.natAbs ≤ C) (hp : p.natAbs ≤ M) (hq : q.natAbs ≤ M) (hr : r.natAbs ≤ M) (hs : s.natAbs ≤ M) :
    (fA a b c p r).natAbs ≤ 3 * (C * M * M) ∧ (fB a b c p q r s).natAbs ≤ 6 * (C * M * M) ∧ (fA a b c q s).natAbs ≤ 3 * (C * M * M) := by
  have t1 := mul3 ha hp hp
  have t2 := mul3 hb hp hr
  have t3 := mul3 hc hr hr
  have t4 := mul3 ha hp hq
  have t5 := mul3 hb hp hs
  have t6 := mul3 hb hq hr
  have t7 := mul3 hc hr hs
  have t8 := mul3 ha hq hq
  have t9 := mul3 hb hq hs
  have t0 := mul3 hc hs hs
  have e : fB a b c p q r s = 2 * (a * p * q) + b * p * s + b * q * r + 2 * (c * r * s) := by
    unfold fB
    grind
  rw [e]
  exact ⟨abs3_le t1 t2 t3, abs4_le t4 t5 t6 t7, abs3_le t8 t9 t0⟩
theorem dsc_size {a b c : Int} {n : Int} (n0 : 0 ≤ n) (ha : (a.natAbs : Int) ≤ n) (hb : (b.natAbs : Int) ≤ n) (hc : (c.natAbs : Int) ≤ n) : -(5 * (n * n)) ≤ dsc a b c ∧ dsc a b c ≤ 5 * (n * n) := by
  have e1 : ((b * b).natAbs : Int) ≤ n * n := by
    rw [Int.natAbs_mul, Int.natCast_mul]
    exact Int.mul_le_mul hb hb (by omega) n0
  have e2 : ((a * c).natAbs : Int) ≤ n * n := by
    rw [Int.natAbs_mul, Int.natCast_mul]
    exact Int.mul_le_mul ha hc (by omega) n0
  unfold dsc
  rw [Int.mul_assoc]
  generalize b * b = x at *
  generalize a * c = y at *
  generalize n * n = z at *
  omega

/-! ### split forms -/
/-- a direction: (x, y) without its measure, the sign set -/
def Dir (x y x' y' : Int) : Prop := (∃ g, g ≠ 0 ∧ x = g * x' ∧ y = g * y') ∧ gI x' y' = 1 ∧ (0 < x' ∨ (x' = 0 ∧ y' = 1))
/-- (x, y) is where one of the two lines of the form lies, with the middle number k behind it -/
def Ln (a b c k x y : Int) : Prop := 2 * a * x + b * y = -(k * y) ∧ b * x + 2 * c * y = k * x
theorem Ln.zero {a b c k x y : Int} (h : Ln a b c k x y) : fA a b c x y = 0 := by
  obtain ⟨h1, h2⟩ := h
  have e : 2 * fA a b c x y = x * (2 * a * x + b * y) + y * (b * x + 2 * c * y) := by
    unfold fA
    grind
  rw [h1, h2] at e
  have : x * -(k * y) + y * (k * x) = 0 := by grind
  omega
theorem Ln.mid {a b c k x y u v : Int} (h : Ln a b c k x y) (hd : u * x + v * y = 1) : fB a b c x (-v) y u = k := by
  obtain ⟨h1, h2⟩ := h
  have e : fB a b c x (-v) y u = -v * (2 * a * x + b * y) + u * (b * x + 2 * c * y) := by
    unfold fB
    grind
  rw [e, h1, h2]
  have : -v * -(k * y) + u * (k * x) = k * (u * x + v * y) := by grind
  rw [this, hd, Int.mul_one]
theorem Ln.of {a b c k g x y : Int} (hg : g ≠ 0) (h : Ln a b c k (g * x) (g * y)) : Ln a b c k x y := by
  obtain ⟨h1, h2⟩ := h
  constructor
  · refine Int.eq_of_mul_eq_mul_left hg ?_
    have e1 : g * (2 * a * x + b * y) = 2 * a * (g * x) + b * (g * y) := by grind
    have e2 : g * -(k * y) = -(k * (g * y)) := by grind
    rw [e1, e2]
    exact h1
  · refine Int.eq_of_mul_eq_mul_left hg ?_
    have e1 : g * (b * x + 2 * c * y) = b * (g * x) + 2 * c * (g * y) := by grind
    have e2 : g * (k * x) = k * (g * x) := by grind
    rw [e1, e2]
    exact h2
/-- the canonical split form is one -/
theorem split_one {k c c' p q r s : Int} (k0 : 0 < k) (hd : p * s - q * r = 1) (h1 : 0 ≤ c) (h2 : c < k) (h3 : 0 ≤ c') (h4 : c' < k) (ea : 0 = fA 0 k c p r) (eb : k = fB 0 k c p q r s) (ec : c' = fA 0 k c q s) : c = c' := by
  unfold fA at ea ec
  unfold fB at eb
  have e1 : r * (k * p + c * r) = 0 := by
    have : 0 * p * p + k * p * r + c * r * r = r * (k * p + c * r) := by grind
    omega
  rcases Int.mul_eq_zero.mp e1 with h | h
  · subst h
    have ps : p * s = 1 := by omega
    have hs : s.natAbs = 1 := by
      have h : p.natAbs * s.natAbs = 1 := by
        rw [← Int.natAbs_mul, ps]
        rfl
      exact Nat.dvd_one.mp ⟨p.natAbs, by rw [Nat.mul_comm]; exact h.symm⟩
    have s2 : s * s = 1 := by
      rcases Int.natAbs_eq s with h3 | h3 <;> rw [h3, hs] <;> rfl
    have e2 : c' = k * (q * s) + c := by
      have : 0 * q * q + k * q * s + c * s * s = k * (q * s) + c * (s * s) := by grind
      rw [s2] at this
      omega
    generalize q * s = t at e2
    have : t = 0 := by
      rcases Int.lt_trichotomy t 0 with h | h | h
      · have := Int.mul_le_mul_of_nonneg_left (show t ≤ -1 by omega) (show 0 ≤ k by omega)
        omega
      · exact h
      · have := Int.mul_le_mul_of_nonneg_left (show 1 ≤ t by omega) (show 0 ≤ k by omega)
        omega
    subst this
    omega
  · exfalso
    have e2 : 2 * 0 * p * q + k * (p * s + q * r) + 2 * c * r * s = k * (q * r - p * s) + 2 * s * (k * p + c * r) := by grind
    rw [h, show q * r - p * s = -1 by omega] at e2
    omega
theorem gL_two (x y : Int) : gL [x, y] = ((Nat.gcd x.natAbs y.natAbs : Nat) : Int) := by
  unfold gL
  simp [gI]
theorem dir_of {x y G g : Int} (h : x ≠ 0 ∨ y ≠ 0) (hG : G = ((Nat.gcd x.natAbs y.natAbs : Nat) : Int)) (hg : g = if x < 0 ∨ (x = 0 ∧ y < 0) then -G else G) : g ≠ 0 ∧ Dir x y (x.fdiv g) (y.fdiv g) ∧ (x.fdiv g).natAbs ≤ x.natAbs ∧ (y.fdiv g).natAbs ≤ y.natAbs := by
  have hp : 0 < Nat.gcd x.natAbs y.natAbs := by
    rcases h with h | h
    · exact Nat.gcd_pos_of_pos_left _ (by omega)
    · exact Nat.gcd_pos_of_pos_right _ (by omega)
  have g0 : g ≠ 0 := by
    rw [hg]
    split <;> omega
  have ga : g.natAbs = Nat.gcd x.natAbs y.natAbs := by
    rw [hg, hG]
    split <;> omega
  have dx : g ∣ x := Int.natAbs_dvd_natAbs.mp (by rw [ga]; exact Nat.gcd_dvd_left _ _)
  have dy : g ∣ y := Int.natAbs_dvd_natAbs.mp (by rw [ga]; exact Nat.gcd_dvd_right _ _)
  obtain ⟨x', hx⟩ := dx
  obtain ⟨y', hy⟩ := dy
  have ex : x.fdiv g = x' := by rw [hx, Int.mul_fdiv_cancel_left _ g0]
  have ey : y.fdiv g = y' := by rw [hy, Int.mul_fdiv_cancel_left _ g0]
  rw [ex, ey]
  have co : Nat.gcd x'.natAbs y'.natAbs = 1 := by
    have e : Nat.gcd x.natAbs y.natAbs = Nat.gcd x.natAbs y.natAbs * Nat.gcd x'.natAbs y'.natAbs := by
      conv => lhs; rw [hx, hy, Int.natAbs_mul, Int.natAbs_mul, Nat.gcd_mul_left, ga]
    exact (Nat.eq_of_mul_eq_mul_left hp (by rw [Nat.mul_one]; exact e)).symm
  have l1 : x'.natAbs ≤ x.natAbs := by
    rw [hx, Int.natAbs_mul]
    exact Nat.le_mul_of_pos_left _ (by omega)
  have l2 : y'.natAbs ≤ y.natAbs := by
    rw [hy, Int.natAbs_mul]
    exact Nat.le_mul_of_pos_left _ (by omega)
  refine ⟨g0, ⟨⟨g, g0, hx, hy⟩, by unfold gI; rw [co]; rfl, ?_⟩, l1, l2⟩
  have G0 : 0 < G := by omega
  by_cases z : x < 0 ∨ (x = 0 ∧ y < 0)
  · rw [if_pos z] at hg
    rcases z with z | ⟨z1, z2⟩
    · left
      rcases Int.lt_trichotomy x' 0 with k | k | k
      · have := Int.mul_pos_of_neg_of_neg (show g < 0 by omega) k
        omega
      · subst k
        omega
      · exact k
    · right
      have x0 : x' = 0 := by
        rw [z1] at hx
        exact (Int.mul_eq_zero.mp hx.symm).resolve_left g0
      subst x0
      refine ⟨rfl, ?_⟩
      have y1 : y'.natAbs = 1 := by
        have := co
        simp at this
        exact this
      rcases Int.lt_trichotomy y' 0 with k | k | k
      · have := Int.mul_pos_of_neg_of_neg (show g < 0 by omega) k
        omega
      · subst k
        omega
      · omega
  · rw [if_neg z] at hg
    by_cases w : x = 0
    · right
      have x0 : x' = 0 := by
        rw [w] at hx
        exact (Int.mul_eq_zero.mp hx.symm).resolve_left g0
      subst x0
      refine ⟨rfl, ?_⟩
      have y1 : y'.natAbs = 1 := by
        have := co
        simp at this
        exact this
      rcases Int.lt_trichotomy y' 0 with k | k | k
      · have := Int.mul_neg_of_pos_of_neg (show 0 < g by omega) k
        omega
      · subst k
        omega
      · omega
    · left
      rcases Int.lt_trichotomy x' 0 with k | k | k
      · have := Int.mul_neg_of_pos_of_neg (show 0 < g by omega) k
        omega
      · subst k
        omega
      · exact k
theorem ln0 (b c : Int) : Ln 0 b c (-b) c (-b) := by
  constructor
  · grind
  · grind
theorem ln1 {a b c k : Int} (hd : b * b - 4 * a * c = k * k) : Ln a b c (-k) (k - b) (2 * a) ∧ Ln a b c (- -k) (-k - b) (2 * a) := by
  have e : b * (k - b) + 2 * c * (2 * a) = k * b - (b * b - 4 * a * c) := by grind
  have e2 : b * (-k - b) + 2 * c * (2 * a) = -(k * b) - (b * b - 4 * a * c) := by grind
  refine ⟨⟨?_, ?_⟩, ⟨?_, ?_⟩⟩
  · grind
  · rw [e, hd]
    grind
  · grind
  · rw [e2, hd]
    grind
/-- a split form of the root k -/
structure SF (k a b c : Int) : Prop where
  d : dsc a b c = k * k
  k0 : 0 < k
theorem SF.root {k a b c : Int} (F : SF k a b c) : rootI (b * b - 4 * a * c) = k := by
  have d : b * b - 4 * a * c = k * k := F.d
  have k0 := F.k0
  have e : k * k < (k + 1) * (k + 1) := by
    have : (k + 1) * (k + 1) = k * k + 2 * k + 1 := by grind
    omega
  rw [d]
  exact (rootI_uniq (Int.mul_nonneg (by omega) (by omega)) (by omega) (Int.le_refl _) e).symm
/-- a line: its point, the sign of the middle number behind it -/
structure Pt2 (a b c k x y : Int) : Prop where
  g : gI x y = 1
  s : 0 < x ∨ (x = 0 ∧ y = 1)
  l : Ln a b c k x y
  b1 : x.natAbs ≤ 35184372088832
  b2 : y.natAbs ≤ 35184372088832
theorem iteVV {i j : Nat} {σ : L2.St} {H : Hp} {Q : VK} {c : Prop} [Decidable c] {v : V} (h1 : c → σ[i]? = some (some v)) (h2 : ¬ c → σ[j]? = some (some v)) (q : Q v H) : if decide c = true then tVar i σ H Q else tVar j σ H Q := by
  by_cases h : c
  · rw [if_pos (decide_eq_true h)]
    exact ⟨v, h1 h, q⟩
  · rw [if_neg (fun z => h (of_decide_eq_true z))]
    exact ⟨v, h2 h, q⟩
/-- what canonical_split gives -/
structure CS (k a b c c' p q r s : Int) : Prop where
  c0 : 0 ≤ c'
  c1 : c' < k
  det : p * s - q * r = 1
  ea : 0 = fA a b c p r
  eb : k = fB a b c p q r s
  ec : c' = fA a b c q s
theorem upd_seqT {K : PySem.W.Frag} {H : Hp} {D a : Addr} {ys zs xs : List V} (hD : H D = some (.lst ys)) (h : SqT K H a xs) : SqT K (upd H D (.lst zs)) a xs := by
  rcases h with (h | ⟨o, h⟩) | h
  · refine .inl (.inl ((upd_ne ?_).trans h))
    rintro rfl
    rw [hD] at h
    cases h
  · refine .inl (.inr ⟨o, (upd_ne ?_).trans h⟩)
    rintro rfl
    rw [hD] at h
    cases h
  · exact .inr h
theorem cs_of {k a b c x y u v : Int} (k0 : 0 < k) (d : u * x + v * y = 1) (l : Ln a b c k x y) : CS k a b c (fA a b c (-v) u % k) (x * 1 + -v * 0) (x * -((fA a b c (-v) u).fdiv k) + -v * 1) (y * 1 + u * 0) (y * -((fA a b c (-v) u).fdiv k) + u * 1) := by
  have z := l.zero
  have m := l.mid d
  have e := Int.mul_ediv_add_emod (fA a b c (-v) u) k
  rw [← Int.fdiv_eq_ediv_of_nonneg _ (by omega)] at e
  generalize hn : (fA a b c (-v) u).fdiv k = n at *
  refine ⟨Int.emod_nonneg _ (by omega), Int.emod_lt_of_pos _ k0, ?_, ?_, ?_, ?_⟩
  · grind
  · rw [show x * 1 + -v * 0 = x by omega, show y * 1 + u * 0 = y by omega, z]
  · have e3 : fB a b c (x * 1 + -v * 0) (x * -n + -v * 1) (y * 1 + u * 0) (y * -n + u * 1) = 2 * -n * fA a b c x y + fB a b c x (-v) y u := by
      unfold fA fB
      grind
    rw [e3, z, m]
    omega
  · have e3 : fA a b c (x * -n + -v * 1) (y * -n + u * 1) = n * n * fA a b c x y + -n * fB a b c x (-v) y u + fA a b c (-v) u := by
      unfold fA fB
      grind
    rw [e3, z, m]
    have : -n * k = -(k * n) := by grind
    omega

/-! ### flat forms -/
structure FL (a b c g p q : Int) : Prop where
  ea : a = g * (p * p)
  eb : b = 2 * (g * (p * q))
  ec : c = g * (q * q)
  co : gI p q = 1
  sg : 0 < p ∨ (p = 0 ∧ q = 1)
  g0 : g ≠ 0
theorem gL_three (x y z : Int) : gL [x, y, z] = ((Nat.gcd (Nat.gcd x.natAbs y.natAbs) z.natAbs : Nat) : Int) := by
  unfold gL
  simp [gI]
theorem FL.content {a b c g p q : Int} (h : FL a b c g p q) : gL [a, b, c] = (g.natAbs : Int) := by
  obtain ⟨ea, eb, ec, co, sg, g0⟩ := h
  rw [gL_three]
  have e1 : a.natAbs = g.natAbs * (p.natAbs * p.natAbs) := by rw [ea, Int.natAbs_mul, Int.natAbs_mul]
  have e2 : b.natAbs = g.natAbs * (2 * (p.natAbs * q.natAbs)) := by
    rw [eb, Int.natAbs_mul, Int.natAbs_mul, Int.natAbs_mul]
    show 2 * (g.natAbs * (p.natAbs * q.natAbs)) = _
    ac_rfl
  have e3 : c.natAbs = g.natAbs * (q.natAbs * q.natAbs) := by rw [ec, Int.natAbs_mul, Int.natAbs_mul]
  have co2 : Nat.Coprime p.natAbs q.natAbs := by
    have : ((Nat.gcd p.natAbs q.natAbs : Nat) : Int) = 1 := co
    show Nat.gcd p.natAbs q.natAbs = 1
    omega
  have c2 : Nat.Coprime (p.natAbs * p.natAbs) (q.natAbs * q.natAbs) := Nat.Coprime.mul_left (Nat.Coprime.mul_right co2 co2) (Nat.Coprime.mul_right co2 co2)
  have c3 : Nat.gcd (Nat.gcd (p.natAbs * p.natAbs) (2 * (p.natAbs * q.natAbs))) (q.natAbs * q.natAbs) = 1 := by
    refine Nat.dvd_one.mp ?_
    rw [← c2]
    exact Nat.dvd_gcd (Nat.dvd_trans (Nat.gcd_dvd_left _ _) (Nat.gcd_dvd_left _ _)) (Nat.gcd_dvd_right _ _)
  rw [e1, e2, e3, Nat.gcd_mul_left, Nat.gcd_mul_left, c3, Nat.mul_one]
theorem FL.of {a b c g P Q : Int} (g0 : g ≠ 0) (h : P ≠ 0 ∨ Q ≠ 0) (ea : a = g * (P * P)) (eb : b = 2 * (g * (P * Q))) (ec : c = g * (Q * Q)) : ∃ g' p q, FL a b c g' p q := by
  obtain ⟨h0, ⟨⟨k, k0, e1, e2⟩, co, sg⟩, _, _⟩ := dir_of (x := P) (y := Q) (g := if P < 0 ∨ (P = 0 ∧ Q < 0) then -((Nat.gcd P.natAbs Q.natAbs : Nat) : Int) else ((Nat.gcd P.natAbs Q.natAbs : Nat) : Int)) h rfl rfl
  generalize P.fdiv _ = p at *
  generalize Q.fdiv _ = q at *
  refine ⟨g * (k * k), p, q, ?_, ?_, ?_, co, sg, ?_⟩
  · rw [ea, e1]
    grind
  · rw [eb, e1, e2]
    grind
  · rw [ec, e2]
    grind
  · intro z
    rcases Int.mul_eq_zero.mp z with w | w
    · exact g0 w
    · exact k0 ((Int.mul_eq_zero.mp w).elim id id)
def FlatR (a b c g p q : Int) : Prop := (a = 0 ∧ b = 0 ∧ c = 0 ∧ g = 0 ∧ p = 1 ∧ q = 0) ∨ FL a b c g p q
theorem em_step {a b i B : Nat} (hb : b ≠ 0) (h : (i = 0 ∧ a * b * 2 < B) ∨ (b ≤ a ∧ a * b * 2 ^ i < B)) : a % b ≤ b ∧ b * (a % b) * 2 ^ (i + 1) < B := by
  have h1 : a % b < b := Nat.mod_lt _ (by omega)
  refine ⟨by omega, ?_⟩
  rcases h with ⟨rfl, h⟩ | ⟨hl, h⟩
  · have h2 : b * (a % b) ≤ b * a := Nat.mul_le_mul_left _ (Nat.mod_le _ _)
    rw [Nat.mul_comm b a] at h2
    have e : (2 : Nat) ^ (0 + 1) = 2 := rfl
    rw [e]
    omega
  · have h2 : 2 * (a % b) ≤ a := by
      have h3 := Nat.div_add_mod a b
      have h4 : 1 ≤ a / b := Nat.div_pos hl (by omega)
      have h5 : b * 1 ≤ b * (a / b) := Nat.mul_le_mul_left _ h4
      omega
    have h3 : b * (2 * (a % b)) ≤ b * a := Nat.mul_le_mul_left _ h2
    have e : b * (a % b) * 2 ^ (i + 1) = b * (2 * (a % b)) * 2 ^ i := by
      rw [Nat.pow_succ]
      ac_rfl
    rw [e]
    refine Nat.lt_of_le_of_lt (Nat.mul_le_mul_right _ h3) ?_
    rw [Nat.mul_comm b a]
    exact h

theorem em_end5 {a b G B : Nat} (hG : Nat.gcd a b = G) (h : (5000 = 0 ∧ a * b * 2 < B) ∨ (b ≤ a ∧ a * b * 2 ^ 5000 < B)) (hB : B ≤ 2 ^ 5000) : a = G := by
  rcases h with ⟨h, _⟩ | ⟨hl, h⟩
  · cases h
  · have h1 : a * b = 0 := by
      by_cases z : a * b = 0
      · exact z
      · have h2 : 1 * 2 ^ 5000 ≤ a * b * 2 ^ 5000 := Nat.mul_le_mul_right _ (by omega)
        rw [Nat.one_mul] at h2
        omega
    have hb : b = 0 := by
      rcases Nat.mul_eq_zero.mp h1 with z | z
      · omega
      · exact z
    rw [hb, Nat.gcd_zero_right] at hG
    exact hG

/-! ### walks from any start -/
def aG (d : Int) (s : Int × Int) (k : Nat) : List Int := (List.range k).map (cfa d s)
theorem aG_succ (d : Int) (s : Int × Int) (k : Nat) : aG d s (k + 1) = aG d s k ++ [cfa d s k] := by
  unfold aG
  rw [List.range_succ, List.map_append]
  rfl
theorem aG_len (d : Int) (s : Int × Int) (k : Nat) : (aG d s k).length = k := by
  unfold aG
  rw [List.length_map, List.length_range]
theorem aG_at {d : Int} {s : Int × Int} {k i : Nat} (h : i < k) : (aG d s k)[i]? = some (cfa d s i) := by
  unfold aG
  rw [List.getElem?_map, List.getElem?_range h]
  rfl
theorem cst_aG (d : Int) (s : Int × Int) (k : Nat) : cst (aG d s (k + 1)) = cstep (cst (aG d s k)) (cfa d s k) := by
  unfold cst
  rw [aG_succ, List.foldl_append]
  rfl
section
variable {d root : Int} {s : Int × Int} {c : Int}
theorem shiftG (ag : ∀ l, 1 ≤ l → (cf d root s l).2 = c → cf d root s (l + 1) = cf d root s 1) {l : Nat} (h0 : 1 ≤ l) (h : (cf d root s l).2 = c) : ∀ k, cf d root s (l + (k + 1)) = cf d root s (k + 1)
  | 0 => ag l h0 h
  | k + 1 => by
    show nxt d root (cf d root s (l + (k + 1))) = nxt d root (cf d root s (k + 1))
    rw [shiftG ag h0 h k]
/-- the places where it comes back are the multiples of the first -/
theorem hit_dvd (ag : ∀ l, 1 ≤ l → (cf d root s l).2 = c → cf d root s (l + 1) = cf d root s 1) {l : Nat} (h0 : 1 ≤ l) (h : (cf d root s l).2 = c) (least : ∀ k, 1 ≤ k → k < l → (cf d root s k).2 ≠ c) :
    ∀ (f m : Nat), m ≤ f → 1 ≤ m → (cf d root s m).2 = c → l ∣ m
  | 0, m, h1, h2, _ => absurd h2 (by omega)
  | f + 1, m, h1, h2, h3 => by
    by_cases z : m < l
    · exact absurd h3 (least m h2 z)
    · by_cases y : m = l
      · rw [y]
        exact Nat.dvd_refl _
      · have e := shiftG ag h0 h (m - l - 1)
        rw [show l + (m - l - 1 + 1) = m by omega, show m - l - 1 + 1 = m - l by omega] at e
        rw [e] at h3
        have := hit_dvd ag h0 h least f (m - l) (by omega) (by omega) h3
        have := Nat.dvd_add this (Nat.dvd_refl l)
        rwa [show m - l + l = m by omega] at this
theorem hit_even (ag : ∀ l, 1 ≤ l → (cf d root s l).2 = c → cf d root s (l + 1) = cf d root s 1) {l m : Nat} (h0 : 1 ≤ l) (h : (cf d root s l).2 = c) (least : ∀ k, 1 ≤ k → k < l → (cf d root s k).2 ≠ c)
    (m0 : 1 ≤ m) (m1 : (cf d root s m).2 = c) (m2 : m % 2 = 0) (m3 : ∀ k, 1 ≤ k → k < m → ¬ ((cf d root s k).2 = c ∧ k % 2 = 0)) : m = pellN l := by
  have hd := hit_dvd ag h0 h least m m (Nat.le_refl _) m0 m1
  unfold pellN
  by_cases z : l % 2 = 1
  · rw [if_pos z]
    have e := shiftG ag h0 h (l - 1)
    rw [show l + (l - 1 + 1) = 2 * l by omega, show l - 1 + 1 = l by omega] at e
    have h2 : (cf d root s (2 * l)).2 = c := by rw [e, h]
    have le1 : m ≤ 2 * l := by
      by_cases y : m ≤ 2 * l
      · exact y
      · exact absurd ⟨h2, by omega⟩ (m3 (2 * l) (by omega) (by omega))
    obtain ⟨t, rfl⟩ := hd
    have t0 : t ≠ 0 := by
      rintro rfl
      omega
    have t1 : t ≠ 1 := by
      rintro rfl
      omega
    have : 2 ≤ t := by omega
    have := Nat.mul_le_mul_left l this
    omega
  · rw [if_neg z]
    have le1 : l ≤ m := Nat.le_of_dvd (by omega) hd
    by_cases y : m = l
    · exact y
    · exact absurd ⟨h, by omega⟩ (m3 l h0 (by omega))
end
/-! ### the walk by whole numbers, for tables -/
def runG (c d root : Nat) : Nat → Nat → Nat → Nat → Nat → Nat → Nat → Bool → Option (Nat × Nat)
  | 0, _, _, _, _, _, _, _ => none
  | f + 1, P, Q, p0, q0, p1, q1, par => bif (Q.beq c && par) then some (p1, q1) else
      runG c d root f ((root + P) / Q * Q - P) ((d - ((root + P) / Q * Q - P) * ((root + P) / Q * Q - P)) / Q) p1 q1 ((root + P) / Q * p1 + p0) ((root + P) / Q * q1 + q0) (!par)
theorem runG_ok {d : Int} {s : Int × Int} {c dn rn : Nat} (hd : (dn : Int) = d) (hr : (rn : Int) = rootI d) (r0 : 0 ≤ rootI d) (h1 : rootI d * rootI d < d) (h2 : d < (rootI d + 1) * (rootI d + 1))
    (red : ∀ k, Red d (rootI d) (cf d (rootI d) s (k + 1)).1 (cf d (rootI d) s (k + 1)).2) : ∀ (f k P Q p0 q0 p1 q1 : Nat) (par : Bool) (x y : Nat), (P : Int) = (cf d (rootI d) s (k + 1)).1 → (Q : Int) = (cf d (rootI d) s (k + 1)).2 →
    cst (aG d s (k + 1)) = (((p0 : Int), (q0 : Int)), ((p1 : Int), (q1 : Int))) → par = decide ((k + 1) % 2 = 0) → (∀ i, 1 ≤ i → i < k + 1 → ¬ ((cf d (rootI d) s i).2 = (c : Int) ∧ i % 2 = 0)) → runG c dn rn f P Q p0 q0 p1 q1 par = some (x, y) →
    ∃ m, k + 1 ≤ m ∧ m < k + 1 + f ∧ (cf d (rootI d) s m).2 = (c : Int) ∧ m % 2 = 0 ∧ (∀ i, 1 ≤ i → i < m → ¬ ((cf d (rootI d) s i).2 = (c : Int) ∧ i % 2 = 0)) ∧ (cst (aG d s m)).2 = ((x : Int), (y : Int))
  | 0, _, _, _, _, _, _, _, _, _, _, _, _, _, _, _, h => by cases h
  | f + 1, k, P, Q, p0, q0, p1, q1, par, x, y, hP, hQ, hc, hpar, hmin, h => by
    unfold runG at h
    by_cases e : Q = c ∧ par = true
    · have e2 : (Q.beq c && par) = true := by rw [e.1, e.2, Nat.beq_refl]; rfl
      rw [e2] at h
      have hx := Option.some.inj h
      refine ⟨k + 1, Nat.le_refl _, by omega, by rw [← hQ, e.1], ?_, hmin, ?_⟩
      · rw [e.2] at hpar
        exact of_decide_eq_true hpar.symm
      · rw [hc]
        injection hx with hx1 hx2
        rw [hx1, hx2]
    · have e2 : (Q.beq c && par) = false := by
        cases z : (Q.beq c && par) with
        | false => rfl
        | true =>
          rw [Bool.and_eq_true] at z
          exact absurd ⟨Nat.eq_of_beq_eq_true z.1, z.2⟩ e
      rw [e2] at h
      have R := red k
      have N := R.step r0 h1 h2
      rw [← hP, ← hQ] at R
      have qq0 := R.q0
      have ex := nxt_exact (root := rootI d) (Int.ne_of_gt qq0) R.dv
      have ea : cfa d s (k + 1) = (((rn + P) / Q : Nat) : Int) := by
        unfold cfa
        rw [← hP, ← hQ, partI_pos qq0, ← hr, Int.natCast_ediv, Int.natCast_add, Int.add_comm]
      have ecs := cst_aG d s (k + 1)
      rw [hc, ea] at ecs
      have eP : (cf d (rootI d) s (k + 2)).1 = (((rn + P) / Q * Q : Nat) : Int) - (P : Int) := by
        show partI (cf d (rootI d) s (k + 1)).1 (cf d (rootI d) s (k + 1)).2 (rootI d) * (cf d (rootI d) s (k + 1)).2 - (cf d (rootI d) s (k + 1)).1 = _
        rw [← hP, ← hQ, partI_pos qq0, ← hr, Int.natCast_mul, Int.natCast_ediv, Int.natCast_add, Int.add_comm]
      have n1 := N.lo
      have n2 := N.hi
      have n3 := N.q0
      change rootI d - (cf d (rootI d) s (k + 2)).1 < (cf d (rootI d) s (k + 2)).2 at n1
      change (cf d (rootI d) s (k + 2)).2 ≤ rootI d + (cf d (rootI d) s (k + 2)).1 at n2
      change 0 < (cf d (rootI d) s (k + 2)).2 at n3
      have x2 : (cf d (rootI d) s (k + 2)).2 * (Q : Int) = d - (cf d (rootI d) s (k + 2)).1 * (cf d (rootI d) s (k + 2)).1 := by
        have e9 : nxt d (rootI d) ((P : Int), (Q : Int)) = cf d (rootI d) s (k + 2) := by
          rw [hP, hQ]
          rfl
        rw [e9] at ex
        exact ex
      generalize (rn + P) / Q = a at *
      generalize a * Q = X at eP h
      have eP2 : ((X - P : Nat) : Int) = (cf d (rootI d) s (k + 2)).1 := by omega
      generalize X - P = P' at h eP2
      have eQ2 : (((dn - P' * P') / Q : Nat) : Int) = (cf d (rootI d) s (k + 2)).2 := by
        rw [← eP2] at x2
        have x3 : 0 < (cf d (rootI d) s (k + 2)).2 * (Q : Int) := Int.mul_pos n3 (by omega)
        have x4 : ((P' * P' : Nat) : Int) = (P' : Int) * (P' : Int) := Int.natCast_mul _ _
        have x5 : ((dn - P' * P' : Nat) : Int) = (cf d (rootI d) s (k + 2)).2 * (Q : Int) := by omega
        rw [Int.natCast_ediv, x5]
        exact Int.mul_ediv_cancel _ (by omega)
      obtain ⟨m, m1, m2, m3⟩ := runG_ok hd hr r0 h1 h2 red f (k + 1) P' _ p1 q1 (a * p1 + p0) (a * q1 + q0) (!par) x y eP2 eQ2 (by rw [ecs]; unfold cstep; simp) (by
        rw [hpar]
        by_cases z : (k + 1) % 2 = 0
        · rw [decide_eq_true z, decide_eq_false (by omega)]
          rfl
        · rw [decide_eq_false z, decide_eq_true (by omega)]
          rfl) (fun i hi1 hi2 => by
        by_cases z : i < k + 1
        · exact hmin i hi1 z
        · have ei : i = k + 1 := by omega
          subst ei
          rintro ⟨w1, w2⟩
          refine e ⟨?_, ?_⟩
          · rw [← hQ] at w1
            exact Int.ofNat.inj w1
          · rw [hpar]
            exact decide_eq_true w2) h
      exact ⟨m, by omega, by omega, m3⟩
/-! ### the walk from (odd, 2) -/
section
variable {d root o : Int}
theorem nxt_two {P : Int} : nxt d root (P, 2) = (root - (P + root) % 2, (d - (root - (P + root) % 2) * (root - (P + root) % 2)).fdiv 2) := by
  unfold nxt
  show (partI P 2 root * 2 - P, (d - (partI P 2 root * 2 - P) * (partI P 2 root * 2 - P)).fdiv 2) = _
  have e : partI P 2 root * 2 - P = root - (P + root) % 2 := by
    rw [partI_pos (by decide)]
    omega
  rw [e]
theorem cf2_red (r0 : 2 ≤ root) (h1 : root * root < d) (h2 : d < (root + 1) * (root + 1)) (ho : o = 0 ∨ o = 1) (hd : (d - o) % 4 = 0) : ∀ k, Red d root (cf d root (o, 2) (k + 1)).1 (cf d root (o, 2) (k + 1)).2
  | 0 => by
    show Red d root (nxt d root (o, 2)).1 (nxt d root (o, 2)).2
    rw [nxt_two]
    show Red d root (root - (o + root) % 2) ((d - (root - (o + root) % 2) * (root - (o + root) % 2)).fdiv 2)
    have e : (root + 1) * (root + 1) = root * root + 2 * root + 1 := by grind
    generalize hP : root - (o + root) % 2 = P
    have hP2 : P = root ∨ P = root - 1 := by omega
    have par : (P - o) % 2 = 0 := by omega
    obtain ⟨t, ht⟩ : ∃ t, P = o + 2 * t := ⟨(P - o) / 2, by omega⟩
    have sq4 : (d - P * P) % 4 = 0 := by
      have e2 : P * P = o * o + 4 * (o * t + t * t) := by
        rw [ht]
        grind
      have e3 : o * o = o := by
        rcases ho with rfl | rfl <;> rfl
      omega
    have e5 : (root - 1) * (root - 1) = root * root - 2 * root + 1 := by grind
    have hPP : P * P = root * root ∨ P * P = root * root - 2 * root + 1 := by
      rcases hP2 with h | h
      · left
        rw [h]
      · right
        rw [h, e5]
    obtain ⟨q, hq⟩ : ∃ q, d - P * P = 2 * q := ⟨(d - P * P) / 2, by omega⟩
    have fq : (d - P * P).fdiv 2 = q := by rw [hq, Int.mul_fdiv_cancel_left _ (by decide)]
    rw [fq]
    have hlt : P * P ≤ root * root := by omega
    refine ⟨by omega, by omega, by omega, ?_, ⟨2, by rw [hq, Int.mul_comm]⟩⟩
    rcases hP2 with h | h
    · have : P * P = root * root := by rw [h]
      omega
    · have : P * P = root * root - 2 * root + 1 := by rw [h, e5]
      omega
  | k + 1 => (cf2_red r0 h1 h2 ho hd k).step (by omega) h1 h2
theorem cf2_par (r0 : 2 ≤ root) (h1 : root * root < d) (h2 : d < (root + 1) * (root + 1)) (ho : o = 0 ∨ o = 1) (hd : (d - o) % 4 = 0) : ∀ k, ((cf d root (o, 2) k).1 - o) % 2 = 0 ∧ (cf d root (o, 2) k).2 % 2 = 0 ∧ (cf d root (o, 2) k).2 ≠ 0 ∧ ∃ R, R % 2 = 0 ∧ R * (cf d root (o, 2) k).2 = d - (cf d root (o, 2) k).1 * (cf d root (o, 2) k).1
  | 0 => by
    have e3 : o * o = o := by
      rcases ho with rfl | rfl <;> rfl
    refine ⟨by show (o - o) % 2 = 0; omega, rfl, by show (2 : Int) ≠ 0; decide, (d - o) / 2, by omega, ?_⟩
    show (d - o) / 2 * 2 = d - o * o
    omega
  | k + 1 => by
    obtain ⟨a1, a2, a3, R, a4, a5⟩ := cf2_par r0 h1 h2 ho hd k
    have N := (cf2_red r0 h1 h2 ho hd k).q0
    have ex := nxt_exact (root := root) (P := (cf d root (o, 2) k).1) (Q := (cf d root (o, 2) k).2) a3 ⟨R, by rw [← a5, Int.mul_comm]⟩
    have eP : (cf d root (o, 2) (k + 1)).1 = partI (cf d root (o, 2) k).1 (cf d root (o, 2) k).2 root * (cf d root (o, 2) k).2 - (cf d root (o, 2) k).1 := rfl
    change (cf d root (o, 2) (k + 1)).2 * (cf d root (o, 2) k).2 = d - (cf d root (o, 2) (k + 1)).1 * (cf d root (o, 2) (k + 1)).1 at ex
    generalize cf d root (o, 2) (k + 1) = t at *
    obtain ⟨P', Q'⟩ := t
    generalize partI (cf d root (o, 2) k).1 (cf d root (o, 2) k).2 root = a at *
    generalize cf d root (o, 2) k = t2 at *
    obtain ⟨P, Q⟩ := t2
    dsimp only at *
    have hq := nrm_q Q Q' P P' d a R a3 a5 ex eP
    obtain ⟨q2, hq2⟩ : ∃ q2, Q = 2 * q2 := ⟨Q / 2, by omega⟩
    have eaq : a * Q = 2 * (a * q2) := by rw [hq2]; grind
    have hpp : (P' - o) % 2 = 0 := by omega
    obtain ⟨w, hw⟩ : ∃ w, P - P' = 2 * w := ⟨(P - P') / 2, by omega⟩
    have eaw : a * (P - P') = 2 * (a * w) := by rw [hw]; grind
    exact ⟨hpp, by omega, by omega, Q, a2, by rw [Int.mul_comm]; exact ex⟩
theorem cf2_again (r0 : 2 ≤ root) (h1 : root * root < d) (h2 : d < (root + 1) * (root + 1)) (ho : o = 0 ∨ o = 1) (hd : (d - o) % 4 = 0) (l : Nat) (_h0 : 1 ≤ l) (h : (cf d root (o, 2) l).2 = 2) : cf d root (o, 2) (l + 1) = cf d root (o, 2) 1 := by
  obtain ⟨a1, _⟩ := cf2_par r0 h1 h2 ho hd l
  show nxt d root (cf d root (o, 2) l) = nxt d root (o, 2)
  have e : cf d root (o, 2) l = ((cf d root (o, 2) l).1, 2) := Prod.ext rfl h
  rw [e, nxt_two, nxt_two]
  have e2 : ((cf d root (o, 2) l).1 + root) % 2 = (o + root) % 2 := by omega
  rw [e2]
theorem cf2_unlike (r0 : 2 ≤ root) (h1 : root * root < d) (h2 : d < (root + 1) * (root + 1)) (ho : o = 0 ∨ o = 1) (hd : (d - o) % 4 = 0) (h5 : 2 ≤ root - o) {l : Nat} (hm : ∀ k, 1 ≤ k → k < l → (cf d root (o, 2) k).2 ≠ 2) : ∀ j i, j < i → i ≤ l → cf d root (o, 2) j ≠ cf d root (o, 2) i
  | 0, i, hij, hl, e => by
    obtain ⟨k, rfl⟩ : ∃ k, i = k + 1 := ⟨i - 1, by omega⟩
    have R := cf2_red r0 h1 h2 ho hd k
    rw [← e] at R
    have a : root - o < 2 := R.lo
    omega
  | 1, i, hij, hl, e => by
    obtain ⟨k, rfl⟩ : ∃ k, i = k + 2 := ⟨i - 2, by omega⟩
    have R := cf2_red r0 h1 h2 ho hd k
    have R1 := cf2_red r0 h1 h2 ho hd 0
    have x := nxt_exact (root := root) (Int.ne_of_gt R.q0) R.dv
    change (cf d root (o, 2) (k + 2)).2 * (cf d root (o, 2) (k + 1)).2 = d - (cf d root (o, 2) (k + 2)).1 * (cf d root (o, 2) (k + 2)).1 at x
    rw [← e] at x
    have y := nxt_exact (root := root) (d := d) (P := o) (Q := 2) (by decide) (by
      obtain ⟨_, _, _, R, _, a5⟩ := cf2_par r0 h1 h2 ho hd 0
      exact ⟨R, a5.symm.trans (Int.mul_comm R 2)⟩)
    change (cf d root (o, 2) 1).2 * 2 = d - (cf d root (o, 2) 1).1 * (cf d root (o, 2) 1).1 at y
    have q1 := R1.q0
    exact hm (k + 1) (by omega) (by omega) (Int.eq_of_mul_eq_mul_left (Int.ne_of_gt q1) (x.trans y.symm))
  | j + 2, i, hij, hl, e => by
    obtain ⟨k, rfl⟩ : ∃ k, i = k + 2 := ⟨i - 2, by omega⟩
    have b := (cf2_red r0 h1 h2 ho hd j).back (cf2_red r0 h1 h2 ho hd k) (by omega) h1 h2 e
    exact cf2_unlike r0 h1 h2 ho hd h5 hm (j + 1) (k + 1) (by omega) (by omega) (Prod.ext b.1 b.2)
end
/-- what even_turn wants -/
structure EvOk (p q d : Int) (n j : Nat) : Prop where
  ex : ExOk p q d n j
  le : n ≤ 40001
  part : ∀ k, (cfa d (p, q) k).natAbs < 2 ^ 60
theorem EvOk.period {p q d : Int} {n j : Nat} (h : EvOk p q d n j) : ∀ k, cf d (rootI d) (p, q) (j + k) = cf d (rootI d) (p, q) (j + k % (n - j)) := by
  obtain ⟨_, _, _, _, _, hj, _, hrep, _⟩ := h.ex
  have sh : ∀ k, cf d (rootI d) (p, q) (n + k) = cf d (rootI d) (p, q) (j + k) := by
    intro k
    induction k with
    | zero => exact hrep
    | succ k ih =>
      show nxt d (rootI d) (cf d (rootI d) (p, q) (n + k)) = nxt d (rootI d) (cf d (rootI d) (p, q) (j + k))
      rw [ih]
  intro k
  induction k using Nat.strongRecOn with
  | _ k ih =>
    by_cases hk : k < n - j
    · rw [Nat.mod_eq_of_lt hk]
    · have e := sh (k - (n - j))
      rw [show n + (k - (n - j)) = j + k by omega] at e
      rw [e, ih (k - (n - j)) (by omega), Nat.mod_eq_sub_mod (show k ≥ n - j by omega)]

/-! ### every discriminant up to 9,605, by the walk -/
def cbL (x2 : Nat) : Nat → Nat → Nat → Nat
  | 0, low, _ => low
  | f + 1, low, high => bif Nat.ble high (low + 1) then low else bif Nat.ble ((low + high) / 2 * ((low + high) / 2 * ((low + high) / 2) - 3)) x2 then cbL x2 f ((low + high) / 2) high else cbL x2 f low ((low + high) / 2)
def cubeB (d X2 low : Nat) : Bool := Nat.ble 2 low && Nat.ble (low * (low * low - 3)) X2 && X2.blt ((low + 1) * ((low + 1) * (low + 1) - 3)) && (!((low * (low * low - 3)).beq X2) || (low * low - 4).blt d || !(((low * low - 4) % d).beq 0))
def okU (d o x y X Y : Nat) : Bool := Nat.ble (o * y) (2 * x) && Nat.ble 1 y && ((2 * x - o * y) * (2 * x - o * y)).beq (d * (y * y) + 4) && X.blt (2 ^ 1800) && x.blt (2 ^ 1800) && y.blt (2 ^ 900) && Y.blt (2 ^ 1800) &&
  (bif (d % 4).beq 0 then (2 * x - o * y).beq (2 * X) && y.beq Y else
    bif ((2 * x - o * y) % 2).beq 1 then ((2 * x - o * y) * ((2 * x - o * y) * (2 * x - o * y) - 3)).beq (2 * X) else (2 * x - o * y).beq (2 * X) && y.beq (2 * Y) && cubeB d (2 * X) (cbL (2 * X) 700 1 (2 ^ (Nat.log2 (2 * X) / 3 + 2))))
def unitB (r d : Nat) : Bool := match runG 2 d r 3000 (r - (r + d % 2) % 2) ((d - (r - (r + d % 2) % 2) * (r - (r + d % 2) % 2)) / 2) 1 0 ((d % 2 + r) / 2) 1 false,
    runG 1 (bif (d % 4).beq 0 then d / 4 else d) (bif (d % 4).beq 0 then r / 2 else r) 3000 (bif (d % 4).beq 0 then r / 2 else r) ((bif (d % 4).beq 0 then d / 4 else d) - (bif (d % 4).beq 0 then r / 2 else r) * (bif (d % 4).beq 0 then r / 2 else r)) 1 0 (bif (d % 4).beq 0 then r / 2 else r) 1 false with
  | some (x, y), some (X, Y) => okU d (d % 2) x y X Y
  | _, _ => false
def rowU (r : Nat) : Bool := (List.range (2 * r)).all fun s => !(Nat.ble ((r * r + (s + 1)) % 4) 1) || unitB r (r * r + (s + 1))
def rowsU (lo n : Nat) : Bool := (List.range n).all fun i => rowU (lo + i)
theorem unit_0 : rowsU 2 30 = true := by decide +kernel
theorem unit_1 : rowsU 32 14 = true := by decide +kernel
theorem unit_2 : rowsU 46 10 = true := by decide +kernel
theorem unit_3 : rowsU 56 8 = true := by decide +kernel
theorem unit_4 : rowsU 64 7 = true := by decide +kernel
theorem unit_5 : rowsU 71 6 = true := by decide +kernel
theorem unit_6 : rowsU 77 6 = true := by decide +kernel
theorem unit_7 : rowsU 83 5 = true := by decide +kernel
theorem unit_8 : rowsU 88 5 = true := by decide +kernel
theorem unit_9 : rowsU 93 6 = true := by decide +kernel
theorem rowsU_at {lo n r : Nat} (h : rowsU lo n = true) (h1 : lo ≤ r) (h2 : r < lo + n) : rowU r = true := by
  have a := List.all_eq_true.mp h (r - lo) (List.mem_range.mpr (by omega))
  rwa [show lo + (r - lo) = r by omega] at a
theorem rowU_all {r : Nat} (h1 : 2 ≤ r) (h2 : r < 99) : rowU r = true := by
  by_cases a0 : r < 32
  · exact rowsU_at unit_0 (by omega) (by omega)
  by_cases a1 : r < 46
  · exact rowsU_at unit_1 (by omega) (by omega)
  by_cases a2 : r < 56
  · exact rowsU_at unit_2 (by omega) (by omega)
  by_cases a3 : r < 64
  · exact rowsU_at unit_3 (by omega) (by omega)
  by_cases a4 : r < 71
  · exact rowsU_at unit_4 (by omega) (by omega)
  by_cases a5 : r < 77
  · exact rowsU_at unit_5 (by omega) (by omega)
  by_cases a6 : r < 83
  · exact rowsU_at unit_6 (by omega) (by omega)
  by_cases a7 : r < 88
  · exact rowsU_at unit_7 (by omega) (by omega)
  by_cases a8 : r < 93
  · exact rowsU_at unit_8 (by omega) (by omega)
  exact rowsU_at unit_9 (by omega) (by omega)

theorem least_of {p : Nat → Prop} : ∀ (n : Nat), (∃ m, 1 ≤ m ∧ m ≤ n ∧ p m) → ∃ m, 1 ≤ m ∧ m ≤ n ∧ p m ∧ ∀ k, 1 ≤ k → k < m → ¬ p k
  | 0, ⟨m, h1, h2, _⟩ => absurd h1 (by omega)
  | n + 1, ⟨m, h1, h2, h3⟩ => by
    by_cases z : ∃ m, 1 ≤ m ∧ m ≤ n ∧ p m
    · obtain ⟨k, k1, k2, k3, k4⟩ := least_of n z
      exact ⟨k, k1, by omega, k3, k4⟩
    · have e : m = n + 1 := by
        by_cases y : m ≤ n
        · exact absurd ⟨m, h1, y, h3⟩ z
        · omega
      subst e
      exact ⟨n + 1, h1, h2, h3, fun k k1 k2 k3 => z ⟨k, k1, by omega, k3⟩⟩
/-- what the table says of d: the program's pair (x, y), the law's pair (X, Y) -/
structure OkU (d x y X Y : Int) : Prop where
  y1 : 1 ≤ y
  t0 : 0 ≤ 2 * x - d % 2 * y
  nrm : (2 * x - d % 2 * y) * (2 * x - d % 2 * y) = d * (y * y) + 4
  bx : 0 ≤ x ∧ Bd 1800 x
  by' : 0 ≤ y ∧ Bd 900 y
  bX : 0 ≤ X ∧ Bd 1800 X
  bY : 0 ≤ Y ∧ Bd 1800 Y
  even : d % 4 = 0 → 2 * x - d % 2 * y = 2 * X ∧ y = Y
  odd : d % 4 = 1 → (2 * x - d % 2 * y) * ((2 * x - d % 2 * y) * (2 * x - d % 2 * y) - 3) = 2 * X ∨ (2 * x - d % 2 * y = 2 * X ∧ y = 2 * Y ∧ ∃ low : Int, 2 ≤ low ∧ low * (low * low - 3) ≤ 2 * X ∧ 2 * X < (low + 1) * ((low + 1) * (low + 1) - 3) ∧ (low * (low * low - 3) ≠ 2 * X ∨ low * low - 4 < d ∨ (low * low - 4) % d ≠ 0))
theorem okU_of {d x y X Y : Nat} (h : okU d (d % 2) x y X Y = true) (h4 : d % 4 = 0 ∨ d % 4 = 1) : OkU (d : Int) x y X Y := by
  unfold okU at h
  simp only [Bool.and_eq_true] at h
  obtain ⟨⟨⟨⟨⟨⟨⟨c1, c2⟩, c3⟩, c4⟩, c5⟩, c6⟩, c7⟩, c8⟩ := h
  have c1 := Nat.le_of_ble_eq_true c1
  have c2 := Nat.le_of_ble_eq_true c2
  have c3 := Nat.eq_of_beq_eq_true c3
  have c4 := Nat.blt_eq.mp c4
  have c5 := Nat.blt_eq.mp c5
  have c6 := Nat.blt_eq.mp c6
  have c7 := Nat.blt_eq.mp c7
  have ed : ((d : Nat) : Int) % 2 = ((d % 2 : Nat) : Int) := by omega
  have et : 2 * (x : Int) - (d : Int) % 2 * (y : Int) = ((2 * x - d % 2 * y : Nat) : Int) := by
    rw [ed, ← Int.natCast_mul]
    omega
  refine ⟨by omega, by rw [et]; omega, ?_, ⟨by omega, by show (x : Int).natAbs < _; rw [Int.natAbs_natCast]; exact c5⟩, ⟨by omega, by show (y : Int).natAbs < _; rw [Int.natAbs_natCast]; exact c6⟩, ⟨by omega, by show (X : Int).natAbs < _; rw [Int.natAbs_natCast]; exact c4⟩, ⟨by omega, by show (Y : Int).natAbs < _; rw [Int.natAbs_natCast]; exact c7⟩, fun z => ?_, fun z => ?_⟩
  · rw [et, ← Int.natCast_mul, c3]
    rw [Int.natCast_add, Int.natCast_mul, Int.natCast_mul]
    rfl
  · have z2 : d % 4 = 0 := by omega
    rw [show (d % 4).beq 0 = true by rw [z2]; rfl] at c8
    rw [cond_true, Bool.and_eq_true] at c8
    have a1 := Nat.eq_of_beq_eq_true c8.1
    have a2 := Nat.eq_of_beq_eq_true c8.2
    rw [et]
    exact ⟨by omega, by omega⟩
  · have z2 : d % 4 = 1 := by omega
    rw [show (d % 4).beq 0 = false by rw [z2]; rfl] at c8
    rw [cond_false] at c8
    rw [et]
    generalize 2 * x - d % 2 * y = t at *
    by_cases w : t % 2 = 1
    · rw [show (t % 2).beq 1 = true by rw [w]; rfl, cond_true] at c8
      have a1 := Nat.eq_of_beq_eq_true c8
      left
      have t2 : 3 ≤ t * t := by
        have : d * (y * y) + 4 = t * t := c3.symm
        omega
      have e : ((t * (t * t - 3) : Nat) : Int) = (t : Int) * ((t : Int) * (t : Int) - 3) := by
        rw [Int.natCast_mul, Int.natCast_sub t2, Int.natCast_mul]
        rfl
      rw [← e, a1]
      omega
    · rw [show (t % 2).beq 1 = false by rw [show t % 2 = 0 by omega]; rfl, cond_false, Bool.and_eq_true, Bool.and_eq_true] at c8
      obtain ⟨⟨a1, a2⟩, a3⟩ := c8
      have a1 := Nat.eq_of_beq_eq_true a1
      have a2 := Nat.eq_of_beq_eq_true a2
      right
      refine ⟨by omega, by omega, ?_⟩
      generalize cbL (2 * X) 700 1 (2 ^ (Nat.log2 (2 * X) / 3 + 2)) = low at a3
      unfold cubeB at a3
      simp only [Bool.and_eq_true] at a3
      obtain ⟨⟨⟨b1, b2⟩, b3⟩, b4⟩ := a3
      have b1 := Nat.le_of_ble_eq_true b1
      have b2 := Nat.le_of_ble_eq_true b2
      have b3 := Nat.blt_eq.mp b3
      have l2 : 4 ≤ low * low := Nat.mul_le_mul b1 b1
      have l3 : 4 ≤ (low + 1) * (low + 1) := Nat.mul_le_mul (show 2 ≤ low + 1 by omega) (show 2 ≤ low + 1 by omega)
      have e1 : ((low * (low * low - 3) : Nat) : Int) = (low : Int) * ((low : Int) * (low : Int) - 3) := by
        rw [Int.natCast_mul, Int.natCast_sub (by omega), Int.natCast_mul]
        rfl
      have e2 : (((low + 1) * ((low + 1) * (low + 1) - 3) : Nat) : Int) = ((low : Int) + 1) * (((low : Int) + 1) * ((low : Int) + 1) - 3) := by
        rw [Int.natCast_mul, Int.natCast_sub (by omega), Int.natCast_mul, Int.natCast_add]
        rfl
      have e3 : ((low * low - 4 : Nat) : Int) = (low : Int) * (low : Int) - 4 := by
        rw [Int.natCast_sub l2, Int.natCast_mul]
        rfl
      refine ⟨(low : Int), by omega, by rw [← e1]; omega, by rw [← e2]; omega, ?_⟩
      rw [← e1, ← e3]
      simp only [Bool.or_eq_true, Bool.not_eq_true'] at b4
      rcases b4 with (b4 | b4) | b4
      · left
        intro q
        have q2 : low * (low * low - 3) = 2 * X := by omega
        rw [q2, Nat.beq_refl] at b4
        cases b4
      · right
        left
        have := Nat.blt_eq.mp b4
        omega
      · right
        right
        intro q
        have q2 : (low * low - 4) % d = 0 := by omega
        rw [q2] at b4
        cases b4
/-- the number whose pell the law asks -/
def pellD (d : Int) : Int := if d % 4 = 0 then d / 4 else d
theorem unit_ok {d : Int} (h0 : 5 ≤ d) (h1 : d ≤ 9605) (h4 : d % 4 = 0 ∨ d % 4 = 1) (ns : rootI d * rootI d ≠ d) :
    ∃ (n j l : Nat) (x y X Y : Int), EvOk (d % 2) 2 d n j ∧ (cst (aG d (d % 2, 2) (pellN (n - j)))).2 = (x, y) ∧ PellOk (pellD d) l ∧ pellN l ≤ 5000 ∧ (cst (aL (pellD d) (pellN l))).2 = (X, Y) ∧ OkU d x y X Y := by
  obtain ⟨r0, r1, r2⟩ := rootI_spec (n := d) (by omega)
  have r1' : rootI d * rootI d < d := by omega
  have rge : 2 ≤ rootI d := by
    by_cases z : 2 ≤ rootI d
    · exact z
    · have := Int.mul_le_mul (show rootI d + 1 ≤ 2 by omega) (show rootI d + 1 ≤ 2 by omega) (by omega) (by omega)
      omega
  have rle : rootI d < 99 := by
    by_cases z : rootI d < 99
    · exact z
    · have := Int.mul_le_mul (show 99 ≤ rootI d by omega) (show 99 ≤ rootI d by omega) (by omega) (by omega)
      omega
  obtain ⟨r, hr⟩ := Int.eq_ofNat_of_zero_le r0
  obtain ⟨dn, hd⟩ := Int.eq_ofNat_of_zero_le (show 0 ≤ d by omega)
  have e1 : (rootI d + 1) * (rootI d + 1) = rootI d * rootI d + 2 * rootI d + 1 := by grind
  have hrr : rootI d * rootI d = ((r * r : Nat) : Int) := by rw [hr, Int.natCast_mul]
  have row := rowU_all (r := r) (by omega) (by omega)
  have hs := List.all_eq_true.mp row (dn - r * r - 1) (List.mem_range.mpr (by omega))
  rw [show r * r + (dn - r * r - 1 + 1) = dn by omega, Bool.or_eq_true] at hs
  have hu : unitB r dn = true := hs.resolve_left (fun k => by
    rw [Nat.ble_eq_true_of_le (by omega)] at k
    cases k)
  have ho : d % 2 = 0 ∨ d % 2 = 1 := by omega
  have hd4 : (d - d % 2) % 4 = 0 := by omega
  -- the law's number
  have hes : pellD d = ((bif (dn % 4).beq 0 then dn / 4 else dn : Nat) : Int) ∧ rootI (pellD d) = ((bif (dn % 4).beq 0 then r / 2 else r : Nat) : Int) ∧ rootI (pellD d) * rootI (pellD d) ≠ pellD d ∧ 0 < pellD d := by
    unfold pellD
    by_cases z : d % 4 = 0
    · rw [if_pos z, show (dn % 4).beq 0 = true by rw [show dn % 4 = 0 by omega]; rfl]
      rw [cond_true, cond_true]
      have q0 : rootI d = 2 * (rootI d / 2) + rootI d % 2 := by omega
      have q1 : (rootI d / 2) * (rootI d / 2) ≤ d / 4 := by
        have := Int.mul_le_mul (show 2 * (rootI d / 2) ≤ rootI d by omega) (show 2 * (rootI d / 2) ≤ rootI d by omega) (by omega) (by omega)
        have e : 2 * (rootI d / 2) * (2 * (rootI d / 2)) = 4 * ((rootI d / 2) * (rootI d / 2)) := by grind
        omega
      have q2 : d / 4 < (rootI d / 2 + 1) * (rootI d / 2 + 1) := by
        have := Int.mul_le_mul (show rootI d + 1 ≤ 2 * (rootI d / 2 + 1) by omega) (show rootI d + 1 ≤ 2 * (rootI d / 2 + 1) by omega) (by omega) (by omega)
        have e : 2 * (rootI d / 2 + 1) * (2 * (rootI d / 2 + 1)) = 4 * ((rootI d / 2 + 1) * (rootI d / 2 + 1)) := by grind
        omega
      have q3 := rootI_uniq (n := d / 4) (by omega) (show 0 ≤ rootI d / 2 by omega) q1 q2
      refine ⟨by omega, by rw [← q3]; omega, ?_, by omega⟩
      rw [← q3]
      intro w
      have e9 : (2 * (rootI d / 2)) * (2 * (rootI d / 2)) = d := by
        have e : 2 * (rootI d / 2) * (2 * (rootI d / 2)) = 4 * ((rootI d / 2) * (rootI d / 2)) := by grind
        omega
      have := rootI_uniq (n := d) (by omega) (show 0 ≤ 2 * (rootI d / 2) by omega) (by omega) (by
        have e : (2 * (rootI d / 2) + 1) * (2 * (rootI d / 2) + 1) = (2 * (rootI d / 2)) * (2 * (rootI d / 2)) + 4 * (rootI d / 2) + 1 := by grind
        omega)
      rw [this] at e9
      exact ns e9
    · rw [if_neg z, show (dn % 4).beq 0 = false by rw [show dn % 4 = 1 by omega]; rfl]
      rw [cond_false, cond_false]
      exact ⟨hd, hr, ns, by omega⟩
  unfold unitB at hu
  generalize (bif (dn % 4).beq 0 then dn / 4 else dn) = en at hu hes
  generalize (bif (dn % 4).beq 0 then r / 2 else r) = re at hu hes
  obtain ⟨s1, s2, s3, s4⟩ := hes
  split at hu
  · rename_i x y X Y g1 g2
    have red1 := cf2_red (o := d % 2) rge r1' r2 ho hd4
    have ag1 := cf2_again (o := d % 2) rge r1' r2 ho hd4
    have c1 : cf d (rootI d) (d % 2, 2) 1 = (rootI d - (d % 2 + rootI d) % 2, (d - (rootI d - (d % 2 + rootI d) % 2) * (rootI d - (d % 2 + rootI d) % 2)).fdiv 2) := nxt_two
    have eP : ((r - (r + dn % 2) % 2 : Nat) : Int) = rootI d - (d % 2 + rootI d) % 2 := by omega
    have hP2 := (red1 0).q0
    have hP3 : (cf d (rootI d) (d % 2, 2) 1).1 * (cf d (rootI d) (d % 2, 2) 1).1 ≤ d := by
      rw [c1]
      have := Int.mul_le_mul (show rootI d - (d % 2 + rootI d) % 2 ≤ rootI d by omega) (show rootI d - (d % 2 + rootI d) % 2 ≤ rootI d by omega) (by omega) r0
      show (rootI d - (d % 2 + rootI d) % 2) * (rootI d - (d % 2 + rootI d) % 2) ≤ d
      omega
    have eQ : (((dn - (r - (r + dn % 2) % 2) * (r - (r + dn % 2) % 2)) / 2 : Nat) : Int) = (d - (rootI d - (d % 2 + rootI d) % 2) * (rootI d - (d % 2 + rootI d) % 2)).fdiv 2 := by
      rw [c1] at hP3
      change (rootI d - (d % 2 + rootI d) % 2) * (rootI d - (d % 2 + rootI d) % 2) ≤ d at hP3
      rw [← eP] at hP3 ⊢
      generalize r - (r + dn % 2) % 2 = P at *
      rw [Int.fdiv_eq_ediv_of_nonneg _ (by decide), Int.natCast_ediv]
      have x4 : ((P * P : Nat) : Int) = (P : Int) * (P : Int) := Int.natCast_mul _ _
      have x5 : ((dn - P * P : Nat) : Int) = d - (P : Int) * (P : Int) := by omega
      rw [x5]
      rfl
    have a1 : cfa d (d % 2, 2) 0 = (((dn % 2 + r) / 2 : Nat) : Int) := by
      unfold cfa
      show partI (d % 2) 2 (rootI d) = _
      rw [partI_pos (by decide)]
      omega
    have cs1 : cst (aG d (d % 2, 2) 1) = ((((1 : Nat) : Int), ((0 : Nat) : Int)), ((((dn % 2 + r) / 2 : Nat) : Int), ((1 : Nat) : Int))) := by
      rw [cst_aG, a1]
      show ((1, 0), ((((dn % 2 + r) / 2 : Nat) : Int) * 1 + 0, (((dn % 2 + r) / 2 : Nat) : Int) * 0 + 1)) = _
      simp
    obtain ⟨m, m1, m2, m3, m4, m5, m6⟩ := runG_ok (s := (d % 2, 2)) hd.symm hr.symm r0 r1' r2 red1 3000 0 _ _ 1 0 _ 1 false x y (by rw [c1]; exact eP) (by rw [c1]; exact eQ) cs1 rfl (fun i i1 i2 => by omega) g1
    obtain ⟨l, l1, l2, l3, l4⟩ := least_of (p := fun m => (cf d (rootI d) (d % 2, 2) m).2 = 2) 3000 ⟨m, by omega, by omega, m3⟩
    have em := hit_even ag1 l1 l3 l4 (by omega) m3 m4 m5
    -- pell
    obtain ⟨u0, u1, u2⟩ := rootI_spec (n := pellD d) (by omega)
    have u1' : rootI (pellD d) * rootI (pellD d) < pellD d := by omega
    have red2 := cf_red (d := pellD d) (root := rootI (pellD d)) u0 u1' u2
    have w1 : cf (pellD d) (rootI (pellD d)) (0, 1) 1 = (rootI (pellD d), pellD d - rootI (pellD d) * rootI (pellD d)) := cf_one trivial
    have a2 : cfa (pellD d) (0, 1) 0 = (re : Int) := by
      unfold cfa
      show partI 0 1 (rootI (pellD d)) = _
      rw [partI_pos (by decide), ← s2]
      simp
    have cs2 : cst (aG (pellD d) (0, 1) 1) = ((((1 : Nat) : Int), ((0 : Nat) : Int)), ((re : Int), ((1 : Nat) : Int))) := by
      rw [cst_aG, a2]
      show ((1, 0), ((re : Int) * 1 + 0, (re : Int) * 0 + 1)) = _
      simp
    have eE : ((en - re * re : Nat) : Int) = pellD d - rootI (pellD d) * rootI (pellD d) := by
      have x4 : ((re * re : Nat) : Int) = (re : Int) * (re : Int) := Int.natCast_mul _ _
      rw [s2] at u1' ⊢
      omega
    obtain ⟨M, M1, M2, M3, M4, M5, M6⟩ := runG_ok (s := (0, 1)) s1.symm s2.symm u0 u1' u2 red2 3000 0 _ _ 1 0 _ 1 false X Y (by rw [w1]; exact s2.symm) (by rw [w1]; exact eE) cs2 rfl (fun i i1 i2 => by omega) g2
    obtain ⟨L, L1, L2, L3, L4⟩ := least_of (p := fun m => (cf (pellD d) (rootI (pellD d)) (0, 1) m).2 = 1) 3000 ⟨M, by omega, by omega, M3⟩
    have eM := hit_even (c := 1) (fun l _ h => cf_again l h) L1 L3 L4 (by omega) M3 M4 M5
    have hpd : pellD d ≤ d := by
      unfold pellD
      split <;> omega
    have PO : PellOk (pellD d) L := ⟨s4, by omega, s3, L1, by omega, L3, L4⟩
    have sz : ∀ k, 0 ≤ (cf d (rootI d) (d % 2, 2) k).1 ∧ (cf d (rootI d) (d % 2, 2) k).1 ≤ 100 ∧ 0 < (cf d (rootI d) (d % 2, 2) k).2 ∧ (cf d (rootI d) (d % 2, 2) k).2 ≤ 200 := by
      intro k
      cases k with
      | zero => exact ⟨by show 0 ≤ d % 2; omega, by show d % 2 ≤ 100; omega, by show (0 : Int) < 2; decide, by show (2 : Int) ≤ 200; decide⟩
      | succ k =>
        have R := red1 k
        have := R.q0
        have := R.p1
        have := R.lo
        have := R.hi
        omega
    have part : ∀ k, (cfa d (d % 2, 2) k).natAbs < 2 ^ 60 := by
      intro k
      obtain ⟨z1, z2, z3, z4⟩ := sz k
      unfold cfa
      rw [partI_pos z3]
      have z := Int.ediv_le_self (a := (cf d (rootI d) (d % 2, 2) k).1 + rootI d) (cf d (rootI d) (d % 2, 2) k).2 (by omega)
      have := Int.ediv_nonneg (a := (cf d (rootI d) (d % 2, 2) k).1 + rootI d) (b := (cf d (rootI d) (d % 2, 2) k).2) (by omega) (by omega)
      show _ < 1152921504606846976
      omega
    have hfm : (d - d % 2 * (d % 2)).fmod 2 = 0 := by
      rw [Int.fmod_eq_emod_of_nonneg _ (by decide)]
      rcases ho with h | h <;> rw [h] <;> omega
    have szz : ∀ i, (cf d (rootI d) (d % 2, 2) i).1.natAbs < 2 ^ 60 ∧ (cf d (rootI d) (d % 2, 2) i).2.natAbs < 2 ^ 60 ∧ (cf d (rootI d) (d % 2, 2) i).2 ≠ 0 := by
      intro i
      obtain ⟨z1, z2, z3, z4⟩ := sz i
      exact ⟨by show _ < 1152921504606846976; omega, by show _ < 1152921504606846976; omega, by omega⟩
    have OK := okU_of (by rw [← show dn % 2 = dn % 2 from rfl]; exact hu) (by omega : dn % 4 = 0 ∨ dn % 4 = 1)
    rw [← hd] at OK
    obtain ⟨n, j, hnj, EX⟩ : ∃ n j, n - j = l ∧ EvOk (d % 2) 2 d n j := by
      by_cases h5 : 2 ≤ rootI d - d % 2
      · refine ⟨l + 1, 1, by omega, ⟨⟨by omega, by show d < 1152921504606846976; omega, ns, by decide, hfm, by omega, by omega, ag1 l l1 l3, fun a b hab hb => cf2_unlike rge r1' r2 ho hd4 h5 l4 a b hab (by omega), fun i _ => szz i⟩, by omega, part⟩⟩
      · -- d is 5
        have d5 : d = 5 := by
          have : rootI d = 2 := by omega
          rw [this] at r1' r2
          omega
        have rt : rootI d = 2 := by omega
        have cc : cf d (rootI d) (d % 2, 2) 1 = (d % 2, 2) := by
          rw [c1, rt, d5]
          decide
        have hl : l = 1 := by
          have : ¬ 1 < l := fun w => l4 1 (by omega) w (by rw [cc])
          omega
        refine ⟨1, 0, by omega, ⟨⟨by omega, by show d < 1152921504606846976; omega, ns, by decide, hfm, by omega, by omega, cc, fun a b hab hb => by omega, fun i _ => szz i⟩, by omega, part⟩⟩
    refine ⟨n, j, L, x, y, X, Y, EX, ?_, PO, by omega, ?_, OK⟩
    · rw [hnj, ← em, m6]
    · rw [← eM]
      exact M6
  · cases hu
section
variable {P : Program} {w : World} {K : PySem.W.Frag} {mg : Str → Option Value} {base : Heap} {fa : Nat → Addr} {fd : Nat → FuncData}
set_option hygiene false
local macro_rules | `(tactic| clean_wf) => `(tactic| (repeat' (first   | with_reducible apply R.var   | with_reducible apply R.gsE   | ((with_reducible apply R.gsN); (focus exact rfl))   | with_reducible apply R.lenS   | ((with_reducible apply R.lenB); exact rfl)   | ((with_reducible apply R.isEq); exact rfl)   | with_reducible apply R.op   | with_reducible apply R.i2   | with_reducible apply R.i0   | with_reducible apply R.con   | with_reducible apply R.cons   | with_reducible apply R.nil   | ((with_reducible apply R.gBd); first | with_reducible assumption | with_reducible apply Bd.mul | with_reducible apply Bd.add | with_reducible apply Bd.sub | ((with_reducible apply Bd.l8); exact eq_true (by decide)) | ((with_reducible apply Bd.lit); exact eq_true (by decide)) | with_reducible apply Bd.neg | with_reducible apply Bd.div | with_reducible apply Bd.abs | with_reducible apply Bd.mod | with_reducible apply Bd.fdiv | ((with_reducible apply Bd.om); omega))   | with_reducible apply Bd.mulW   | ((with_reducible apply R.gSqT); first | with_reducible assumption | ((with_reducible apply SqT.of); with_reducible assumption) | ((with_reducible apply same_seqT); with_reducible assumption) | ((with_reducible apply kp_seqT); with_reducible assumption) | with_reducible apply hU)   | ((with_reducible apply R.isLe); first | decide | omega)   | with_reducible apply R.gcons   | with_reducible apply R.gname   | ((with_reducible apply R.ixT); (focus ((repeat' (first | with_reducible assumption | with_reducible apply hU | ((with_reducible apply SqT.of); with_reducible assumption) | ((with_reducible apply same_seqT); with_reducible assumption) | ((with_reducible apply kp_seqT); with_reducible assumption) | ((with_reducible apply Dw.same); with_reducible assumption))); done)); exact rfl)   | ((with_reducible apply R.ixL); (focus ((repeat' (first | with_reducible assumption | ((with_reducible apply SqL.of); with_reducible assumption) | ((with_reducible apply Same.seq); with_reducible assumption) | ((with_reducible apply Kp.seqL); with_reducible assumption) | ((with_reducible apply fresh_ne); with_reducible assumption) | ((with_reducible apply Dw.same); with_reducible assumption))); done)); exact rfl)   | with_reducible apply R.test   | with_reducible apply R.tb'   | with_reducible apply R.isbl   | with_reducible apply R.cmp   | with_reducible apply R.t2i   | with_reducible apply R.intp   | with_reducible apply R.ifs   | with_reducible apply R.asg   | with_reducible apply R.seq   | with_reducible apply R.gtup   | with_reducible apply R.u1   | with_reducible apply R.un   | with_reducible apply R.ret   | with_reducible apply R.next   | with_reducible apply R.call   | with_reducible apply iteT   | with_reducible apply iteF   | with_reducible assumption   | with_reducible apply R.tup   | with_reducible apply R.lst   | with_reducible apply R.callB   | with_reducible apply R.gnil   | with_reducible apply R.brk   | with_reducible apply R.cont   | with_reducible apply R.drop   | with_reducible apply R.par   | with_reducible apply R.par2   | with_reducible apply R.par3   | with_reducible apply R.par4   | with_reducible apply R.tif   | with_reducible apply R.and   | with_reducible apply R.or   | with_reducible apply R.not   | with_reducible apply R.andV   | with_reducible apply R.orV   | with_reducible apply R.notV   | with_reducible apply R.chain   | with_reducible apply R.tupL   | with_reducible apply R.lstL   | with_reducible apply R.cat   | with_reducible apply R.absI   | with_reducible apply R.intI   | with_reducible apply R.intB   | with_reducible apply R.eqS   | with_reducible apply R.eqBl   | with_reducible apply R.neBl   | with_reducible apply R.sl   | with_reducible apply R.noPart   | with_reducible apply R.part   | with_reducible apply R.isInt   | with_reducible apply R.slL   | with_reducible apply R.isiT   | with_reducible apply R.isiLst   | with_reducible apply R.nwT   | with_reducible apply R.nwL   | ((with_reducible apply R.mt); intro HN tn sn nn ht)   | ((with_reducible apply R.ml); intro HN tn sn nn ht)   | ((with_reducible apply R.isiTupS); focus ((repeat' (first | with_reducible assumption | with_reducible apply hU | ((with_reducible apply SqT.of); with_reducible assumption) | ((with_reducible apply same_seqT); with_reducible assumption) | ((with_reducible apply kp_seqT); with_reducible assumption) | ((with_reducible apply Dw.same); with_reducible assumption))); done))   | ((with_reducible apply R.ne4); focus ((repeat' (first | with_reducible assumption | with_reducible apply hU | ((with_reducible apply SqT.of); with_reducible assumption) | ((with_reducible apply same_seqT); with_reducible assumption) | ((with_reducible apply kp_seqT); with_reducible assumption) | ((with_reducible apply Dw.same); with_reducible assumption))); done))   | ((with_reducible apply R.ne3); focus ((repeat' (first | with_reducible assumption | with_reducible apply hU | ((with_reducible apply SqT.of); with_reducible assumption) | ((with_reducible apply same_seqT); with_reducible assumption) | ((with_reducible apply kp_seqT); with_reducible assumption) | ((with_reducible apply Dw.same); with_reducible assumption))); done))   | ((with_reducible apply R.ne2); focus ((repeat' (first | with_reducible assumption | with_reducible apply hU | ((with_reducible apply SqT.of); with_reducible assumption) | ((with_reducible apply same_seqT); with_reducible assumption) | ((with_reducible apply kp_seqT); with_reducible assumption) | ((with_reducible apply Dw.same); with_reducible assumption))); done))   | ((with_reducible apply R.eq4); focus ((repeat' (first | with_reducible assumption | with_reducible apply hU | ((with_reducible apply SqT.of); with_reducible assumption) | ((with_reducible apply same_seqT); with_reducible assumption) | ((with_reducible apply kp_seqT); with_reducible assumption) | ((with_reducible apply Dw.same); with_reducible assumption))); done))   | ((with_reducible apply R.eq3); focus ((repeat' (first | with_reducible assumption | with_reducible apply hU | ((with_reducible apply SqT.of); with_reducible assumption) | ((with_reducible apply same_seqT); with_reducible assumption) | ((with_reducible apply kp_seqT); with_reducible assumption) | ((with_reducible apply Dw.same); with_reducible assumption))); done))   | ((with_reducible apply R.eq2); focus ((repeat' (first | with_reducible assumption | with_reducible apply hU | ((with_reducible apply SqT.of); with_reducible assumption) | ((with_reducible apply same_seqT); with_reducible assumption) | ((with_reducible apply kp_seqT); with_reducible assumption) | ((with_reducible apply Dw.same); with_reducible assumption))); done))   | ((with_reducible apply R.nw); intro HN tn sn ht)   | with_reducible apply R.notT   | with_reducible apply R.notF   | ((with_reducible apply SqL.of); with_reducible assumption)   | ((with_reducible apply sameB); with_reducible assumption)   | ((with_reducible apply same_at); with_reducible assumption)   | ((with_reducible apply Same.seq); with_reducible assumption)   | ((with_reducible apply Kp.seqL); with_reducible assumption)   | ((with_reducible apply fresh_ne); with_reducible assumption)   | ((with_reducible apply Dw.same); with_reducible assumption)   | ((with_reducible apply R.isEq); exact eq_true (by first | decide | omega))   | ((with_reducible apply R.isLt); first | decide | omega)   | ((with_reducible apply R.isLtI); first | decide | omega)   | ((with_reducible apply R.isLeI); first | decide | omega)   | ((with_reducible apply R.cdiv); exact rfl)   | ((with_reducible apply R.cpow); exact rfl)   | with_reducible apply R.cdivX   | ((with_reducible apply R.isNe); omega)   | ((with_reducible apply wayNF); first | exact rfl | exact ⟨rfl, rfl⟩ | exact ⟨rfl, rfl, rfl⟩ | exact ⟨rfl, rfl, rfl, rfl⟩)   | with_reducible apply R.bm   | ((with_reducible apply R.bmT); (focus ((first | with_reducible assumption | ((with_reducible apply same_at); with_reducible assumption) | ((with_reducible apply kp_at); with_reducible assumption)); done)))   | with_reducible apply R.dput   | with_reducible apply R.dget   | with_reducible apply R.din   | with_reducible apply R.dget2   | with_reducible apply R.forE   | with_reducible apply R.rng1   | with_reducible apply R.rng2   | with_reducible apply R.rg1   | with_reducible apply R.rg2   | with_reducible apply R.lcE   | with_reducible apply R.itup   | with_reducible apply R.ilst   | with_reducible apply uLawNext   | with_reducible apply uLawWide   | with_reducible apply uLawChange   | with_reducible apply uLawMul   | with_reducible apply uLawWorth   | with_reducible apply uDiscriminant   | with_reducible apply uLawAct   | with_reducible apply uUnitChange   | with_reducible apply uLawKind   | with_reducible apply uLawSquare   | with_reducible apply uLawRoot   | with_reducible apply uFloorRoot   | with_reducible apply uLawMeasure   | with_reducible apply uContent   | with_reducible apply uLawSplit   | with_reducible apply uLawFlat   | with_reducible apply uDivided   | fail   )))
local macro_rules | `(tactic| sizeOf_list_dec) => `(tactic| (repeat' (first | with_reducible exact Kp.refl | with_reducible assumption | ((with_reducible apply kpB); first | with_reducible assumption | ((with_reducible apply same_kp); with_reducible assumption)))))
local macro_rules | `(tactic| array_get_dec) => `(tactic| (repeat' (first | with_reducible assumption | ((with_reducible apply SqL.of); with_reducible assumption) | ((with_reducible apply Same.seq); with_reducible assumption) | ((with_reducible apply Kp.seqL); with_reducible assumption) | ((with_reducible apply fresh_ne); with_reducible assumption) | ((with_reducible apply Dw.same); with_reducible assumption))))
local macro_rules | `(tactic| simp_wf) => `(tactic| (repeat' (first | with_reducible assumption | with_reducible apply hU | ((with_reducible apply SqT.of); with_reducible assumption) | ((with_reducible apply same_seqT); with_reducible assumption) | ((with_reducible apply kp_seqT); with_reducible assumption) | ((with_reducible apply Dw.same); with_reducible assumption))))
local macro_rules | `(tactic| array_mem_dec) => `(tactic| (repeat' (first | with_reducible exact Same.refl _ | with_reducible assumption | ((with_reducible apply sameB); with_reducible assumption))))
set_option hygiene true
def spMeasure (K : PySem.W.Frag) : Sp := fun vs H Q _ => ∃ (l : Addr) (ns : List Int), vs = [.ref l] ∧ (SqL K H l (ns.map V.int) ∨ SqT K H l (ns.map V.int)) ∧ Q (.int (gL ns)) H
theorem uMeasureT {K : PySem.W.Frag} {H : Hp} {Q : VK} {E : XK} {vs : List V} {l : Addr} {x y : Int} (e : vs = [.ref l]) (hs : SqT K H l [.int x, .int y]) (kk : Q (.int (gL [x, y])) H) : spMeasure K vs H Q E := ⟨l, [x, y], e, .inr hs, kk⟩
theorem okMeasure (T : Txt K mg fa fd) : FnOk P w K mg base CX0 1 (fa 0) (fd 0) ["numbers"] (spMeasure K) := by
  refine T.F_measure.ok scMeasure (fun vs H Q E h => ?_) (fun cdv A outer s H vs Q E hr h => ?_)
  · obtain ⟨l, ns, rfl, hS, q⟩ := h
    rfl
  · obtain ⟨l, ns, rfl, hS, q⟩ := h
    rcases hS with hS | hS
    · refine ⟨_, (pss_cons (ps_set (i := 1) scMeasure.nd rfl (Or.inl rfl) pe_int)
      (pss_cons (ps_for PassesOwn.never rfl (piL K (pv 0)) (pg_name (i := 2) scMeasure.nd rfl (Or.inl rfl))
      (pss_one (ps_set (i := 1) scMeasure.nd rfl (Or.inl rfl) (pe_callBfun cr_gcd (by rfl) T.g_gcd (pa_cons (pv 1) (pa_cons (pv 2) pa_nil))))))
      (pss_one (ps_ret (pv 1))))), ?_⟩
      refine ⟨_, rfl, l, rfl, ⟨_, hS⟩, for_list (K := K) (a := l) (xs := ns.map V.int) (fun i σ H' => ∃ x2, σ = [some (.ref l), some (.int (gL (ns.take i))), x2] ∧ H' = H) ⟨_, rfl, rfl⟩ (fun i σ H' hi ⟨x2, e1, e2⟩ => by rw [e2]; exact hS) (fun i x σ H' hx ⟨x2, e1, e2⟩ => ?_) (fun σ H' ⟨x2, e1, e2⟩ => ?_)⟩
      · subst e1 e2
        rw [List.getElem?_map] at hx
        cases hn : ns[i]? with
        | none =>
          rw [hn] at hx
          cases hx
        | some n =>
          rw [hn] at hx
          cases hx
          refine ⟨_, rfl, _, rfl, _, _, rfl, some (.int n), ?_, rfl⟩
          rw [gL_take hn]
          rfl
      · subst e1 e2
        refine ⟨_, rfl, ?_⟩
        rw [List.length_map, List.take_length]
        exact q
    · refine ⟨_, (pss_cons (ps_set (i := 1) scMeasure.nd rfl (Or.inl rfl) pe_int)
      (pss_cons (ps_for PassesOwn.never rfl (piT K (pv 0)) (pg_name (i := 2) scMeasure.nd rfl (Or.inl rfl))
      (pss_one (ps_set (i := 1) scMeasure.nd rfl (Or.inl rfl) (pe_callBfun cr_gcd (by rfl) T.g_gcd (pa_cons (pv 1) (pa_cons (pv 2) pa_nil))))))
      (pss_one (ps_ret (pv 1))))), ?_⟩
      refine ⟨_, rfl, l, rfl, ⟨_, hS⟩, for_tup (K := K) (a := l) (xs := ns.map V.int) (fun i σ H' => ∃ x2, σ = [some (.ref l), some (.int (gL (ns.take i))), x2] ∧ H' = H) ⟨_, rfl, rfl⟩ (fun i σ H' hi ⟨x2, e1, e2⟩ => by rw [e2]; exact hS) (fun i x σ H' hx ⟨x2, e1, e2⟩ => ?_) (fun σ H' ⟨x2, e1, e2⟩ => ?_)⟩
      · subst e1 e2
        rw [List.getElem?_map] at hx
        cases hn : ns[i]? with
        | none =>
          rw [hn] at hx
          cases hx
        | some n =>
          rw [hn] at hx
          cases hx
          refine ⟨_, rfl, _, rfl, _, _, rfl, some (.int n), ?_, rfl⟩
          rw [gL_take hn]
          rfl
      · subst e1 e2
        refine ⟨_, rfl, ?_⟩
        rw [List.length_map, List.take_length]
        exact q
def spFloorRoot (_ : PySem.W.Frag) : Sp := fun vs H Q _ => ∃ n : Int, vs = [.int n] ∧ 0 ≤ n ∧ n.natAbs < 2 ^ 13000 ∧ Q (.int (rootI n)) H
theorem uFloorRoot {K : PySem.W.Frag} {H : Hp} {Q : VK} {E : XK} {vs : List V} {n : Int} (e : vs = [.int n]) (h0 : 0 ≤ n) (h1 : n < 1000000000000000000) (kk : Q (.int (rootI n)) H) : spFloorRoot K vs H Q E :=
  ⟨n, e, h0, pow_up (a := 60) (by show n.natAbs < 1152921504606846976; omega) (by decide), kk⟩
theorem okFloorRoot (T : Txt K mg fa fd) : FnOk P w K mg base CX0 1 (fa 1) (fd 1) ["n"] (spFloorRoot K) := by
  refine T.F_floor_root.ok scFloorRoot (fun vs H Q E h => ?_) (fun cdv A outer s H vs Q E hr h => ?_)
  · obtain ⟨n, rfl, h0, h1, q⟩ := h
    rfl
  · obtain ⟨n, rfl, h0, h1, q⟩ := h
    refine ⟨_, (pss_one (ps_ret (pe_callBfun cr_isqrt (by rfl) T.g_isqrt (pa_cons (pv 0) pa_nil)))), ?_⟩
    exact ⟨_, rfl, _, rfl, h0, h1, q⟩
def spIsSquare (_ : PySem.W.Frag) : Sp := fun vs H Q _ => ∃ n : Int, vs = [.int n] ∧ n.natAbs < 2 ^ 13000 ∧ Q (.bl (decide (0 ≤ n ∧ rootI n * rootI n = n))) H
theorem okIsSquare (T : Txt K mg fa fd) : FnOk P w K mg base CX0 2 (fa 2) (fd 2) ["n"] (spIsSquare K) := by
  refine T.F_is_square.ok scIsSquare (fun vs H Q E h => ?_) (fun cdv A outer s H vs Q E hr h => ?_)
  · obtain ⟨n, rfl, h1, q⟩ := h
    rfl
  · obtain ⟨n, rfl, h1, q⟩ := h
    refine ⟨_, (pss_cons (ps_if (pt_cmp (pc_lt (pv 0) pe_int))
      (pss_one (ps_ret pe_bl))
      pss_nil)
      (pss_cons (ps_set (i := 1) scIsSquare.nd rfl (Or.inl rfl) (pe_call (sp := spFloorRoot K) (okFloorRoot T) hr (by rfl) T.G_floor_root T.F_floor_root.kp T.B_floor_root .nil pass0 (pa_cons (pv 0) pa_nil)))
      (pss_one (ps_ret (pe_cmp (pc_eqI (pe_op op_mulW (pv 1) (pv 1)) (pv 0))))))), ?_⟩
    refine ⟨_, rfl, _, _, rfl, rfl, _, rfl, ite2 (fun e => ?_) (fun e => ?_)⟩
    · have e1 : n < 0 := of_decide_eq_true e
      have e2 : decide (0 ≤ n ∧ rootI n * rootI n = n) = false := decide_eq_false fun z => by omega
      rw [e2] at q
      exact q
    · have e1 : ¬ n < 0 := fun z => e (decide_eq_true z)
      have h0 : 0 ≤ n := by omega
      have hr := rootI_lt h0 h1
      refine ⟨_, rfl, n, rfl, h0, h1, _, rfl, _, rfl, _, _, rfl, rfl, wide_mul hr hr (by decide) (by decide) (by decide), _, rfl, _, _, rfl, rfl, ?_⟩
      have e2 : decide (0 ≤ n ∧ rootI n * rootI n = n) = decide (rootI n * rootI n = n) := by
        rw [decide_eq_decide]
        exact ⟨fun z => z.2, fun z => ⟨h0, z⟩⟩
      rw [e2] at q
      exact q
def spDiscriminant (K : PySem.W.Frag) : Sp := fun vs H Q _ => ∃ (aform : Addr) (a b c : Int) (N : Nat), vs = [.ref aform] ∧ SqT K H aform [.int a, .int b, .int c] ∧ Bd N a ∧ Bd N b ∧ Bd N c ∧ N ≤ 400000 ∧ (Q (.int (b * b - 4 * a * c)) H)
theorem uDiscriminant {K : PySem.W.Frag} {H : Hp} {Q : VK} {E : XK} {vs : List V} {aform : Addr} {a b c : Int} {n0 n1 n2 : Nat} (hev : vs = [.ref aform]) (s0 : SqT K H aform [.int a, .int b, .int c]) (b0 : Bd n0 a) (b1 : Bd n1 b) (b2 : Bd n2 c) (hll : (n0 + n1 + n2 ≤ 400000) = True) (kk : Q (.int (b * b - 4 * a * c)) H) : spDiscriminant K vs H Q E :=
  have hll := of_eq_true hll
  ⟨aform, a, b, c, n0 + n1 + n2, hev, s0, b0.mono (by omega), b1.mono (by omega), b2.mono (by omega), hll, kk⟩
theorem okDiscriminant (T : Txt K mg fa fd) : FnOk P w K mg base CX0 1 (fa 3) (fd 3) ["form"] (spDiscriminant K) := by
  refine T.F_discriminant.ok scDiscriminant (fun vs H Q E h => ?_) (fun cdv A outer s H vs Q E hr h => ?_)
  · obtain ⟨aform, a, b, c, N, rfl, h_aform, b_a, b_b, b_c, hN, kk⟩ := h
    rfl
  · obtain ⟨aform, a, b, c, N, rfl, h_aform, b_a, b_b, b_c, hN, kk⟩ := h
    refine ⟨_, (pss_cons (ps_asg (pv 0) (pgT K 3 (by rfl) (pgs_cons (pg_name (i := 1) scDiscriminant.nd rfl (Or.inl rfl)) (pgs_cons (pg_name (i := 2) scDiscriminant.nd rfl (Or.inl rfl)) (pgs_cons (pg_name (i := 3) scDiscriminant.nd rfl (Or.inl rfl)) pgs_nil)))))
      (pss_one (ps_ret (pe_op op_sub (pe_op op_mulW (pv 2) (pv 2)) (pe_op op_mulW (pe_op op_mulW pe_int (pv 1)) (pv 3)))))), ?_⟩
    clean_wf
    all_goals first | omega | exact kk | (refine kk _ _ ?_ (by assumption); (repeat' (first | with_reducible exact Same.refl _ | with_reducible assumption | ((with_reducible apply sameB); with_reducible assumption))))
def spContent (K : PySem.W.Frag) : Sp := fun vs H Q _ => ∃ (af : Addr) (a b c : Int), vs = [.ref af] ∧ SqT K H af [.int a, .int b, .int c] ∧ Q (.int (gL [a, b, c])) H
theorem uContent {K : PySem.W.Frag} {H : Hp} {Q : VK} {E : XK} {vs : List V} {af : Addr} {a b c : Int} (e : vs = [.ref af]) (hs : SqT K H af [.int a, .int b, .int c]) (kk : Q (.int (gL [a, b, c])) H) : spContent K vs H Q E := ⟨af, a, b, c, e, hs, kk⟩
theorem okContent (T : Txt K mg fa fd) : FnOk P w K mg base CX0 2 (fa 4) (fd 4) ["form"] (spContent K) := by
  refine T.F_content.ok scContent (fun vs H Q E h => ?_) (fun cdv A outer s H vs Q E hr h => ?_)
  · obtain ⟨af, a, b, c, rfl, hs, kk⟩ := h
    rfl
  · obtain ⟨af, a, b, c, rfl, hs, kk⟩ := h
    refine ⟨_, (pss_one (ps_ret (pe_call (sp := spMeasure K) (okMeasure T) hr (by rfl) T.G_measure T.F_measure.kp T.B_measure .nil pass0 (pa_cons (pv 0) pa_nil)))), ?_⟩
    clean_wf
    exact ⟨af, [a, b, c], rfl, .inr hs, kk⟩
def spDivided (K : PySem.W.Frag) : Sp := fun vs H Q _ => ∃ (af : Addr) (a b c g : Int), vs = [.ref af, .int g] ∧ SqT K H af [.int a, .int b, .int c] ∧ g ≠ 0 ∧ Bd 9000 g ∧ R.Nw H [.int (a.fdiv g), .int (b.fdiv g), .int (c.fdiv g)] Q
theorem uDivided {K : PySem.W.Frag} {H : Hp} {Q : VK} {E : XK} {vs : List V} {af : Addr} {a b c g : Int} {n : Nat} (hev : vs = [.ref af, .int g]) (hs : SqT K H af [.int a, .int b, .int c]) (g0 : g ≠ 0) (bg : Bd n g) (l : Nat.ble n 9000 = true) (kk : R.Nw H [.int (a.fdiv g), .int (b.fdiv g), .int (c.fdiv g)] Q) : spDivided K vs H Q E := ⟨af, a, b, c, g, hev, hs, g0, bdm bg l, kk⟩
theorem okDivided (T : Txt K mg fa fd) : FnOk P w K mg base CX0 1 (fa 5) (fd 5) ["form", "number"] (spDivided K) := by
  refine T.F_divided.ok scDivided (fun vs H Q E h => ?_) (fun cdv A outer s H vs Q E hr h => ?_)
  · obtain ⟨af, a, b, c, g, rfl, hs, g0, bg, kk⟩ := h
    rfl
  · obtain ⟨af, a, b, c, g, rfl, hs, g0, bg, kk⟩ := h
    refine ⟨_, (pss_cons (ps_asg (pv 0) (pgT K 3 (by rfl) (pgs_cons (pg_name (i := 2) scDivided.nd rfl (Or.inl rfl)) (pgs_cons (pg_name (i := 3) scDivided.nd rfl (Or.inl rfl)) (pgs_cons (pg_name (i := 4) scDivided.nd rfl (Or.inl rfl)) pgs_nil)))))
      (pss_one (ps_ret (pe_tup (pa_cons (pe_op op_fdivX (pv 2) (pv 1)) (pa_cons (pe_op op_fdivX (pv 3) (pv 1)) (pa_cons (pe_op op_fdivX (pv 4) (pv 1)) pa_nil))))))), ?_⟩
    clean_wf
    all_goals first | omega | exact kk | (refine kk _ _ ?_ (by assumption); (repeat' (first | with_reducible exact Same.refl _ | with_reducible assumption | ((with_reducible apply sameB); with_reducible assumption))))
def spUnitChange (K : PySem.W.Frag) : Sp := fun vs H Q _ => ∃ (aform : Addr) (a b c t u : Int) (N : Nat), vs = [.ref aform, .int t, .int u] ∧ SqT K H aform [.int a, .int b, .int c] ∧ Bd N a ∧ Bd N b ∧ Bd N c ∧ Bd N t ∧ Bd N u ∧ N ≤ 400000 ∧ (R.Nw H [.int ((t - b * u) / 2), .int (-c * u), .int (a * u), .int ((t + b * u) / 2)] Q)
theorem uUnitChange {K : PySem.W.Frag} {H : Hp} {Q : VK} {E : XK} {vs : List V} {aform : Addr} {a b c t u : Int} {n0 n1 n2 n3 n4 : Nat} (hev : vs = [.ref aform, .int t, .int u]) (s0 : SqT K H aform [.int a, .int b, .int c]) (b0 : Bd n0 a) (b1 : Bd n1 b) (b2 : Bd n2 c) (b3 : Bd n3 t) (b4 : Bd n4 u) (hll : (n0 + n1 + n2 + n3 + n4 ≤ 400000) = True) (kk : R.Nw H [.int ((t - b * u) / 2), .int (-c * u), .int (a * u), .int ((t + b * u) / 2)] Q) : spUnitChange K vs H Q E :=
  have hll := of_eq_true hll
  ⟨aform, a, b, c, t, u, n0 + n1 + n2 + n3 + n4, hev, s0, b0.mono (by omega), b1.mono (by omega), b2.mono (by omega), b3.mono (by omega), b4.mono (by omega), hll, kk⟩
theorem okUnitChange (T : Txt K mg fa fd) : FnOk P w K mg base CX0 1 (fa 6) (fd 6) ["form", "t", "u"] (spUnitChange K) := by
  refine T.F_unit_change.ok scUnitChange (fun vs H Q E h => ?_) (fun cdv A outer s H vs Q E hr h => ?_)
  · obtain ⟨aform, a, b, c, t, u, N, rfl, h_aform, b_a, b_b, b_c, b_t, b_u, hN, kk⟩ := h
    rfl
  · obtain ⟨aform, a, b, c, t, u, N, rfl, h_aform, b_a, b_b, b_c, b_t, b_u, hN, kk⟩ := h
    refine ⟨_, (pss_cons (ps_asg (pv 0) (pgT K 3 (by rfl) (pgs_cons (pg_name (i := 3) scUnitChange.nd rfl (Or.inl rfl)) (pgs_cons (pg_name (i := 4) scUnitChange.nd rfl (Or.inl rfl)) (pgs_cons (pg_name (i := 5) scUnitChange.nd rfl (Or.inl rfl)) pgs_nil)))))
      (pss_one (ps_ret (pe_tup (pa_cons (pe_op op_fdiv (pe_op op_sub (pv 1) (pe_op op_mulW (pv 4) (pv 2))) pe_int) (pa_cons (pe_op op_mulW (pe_un un_neg (pv 5)) (pv 2)) (pa_cons (pe_op op_mulW (pv 3) (pv 2)) (pa_cons (pe_op op_fdiv (pe_op op_add (pv 1) (pe_op op_mulW (pv 4) (pv 2))) pe_int) pa_nil)))))))), ?_⟩
    clean_wf
    all_goals first | omega | exact kk | (refine kk _ _ ?_ (by assumption); (repeat' (first | with_reducible exact Same.refl _ | with_reducible assumption | ((with_reducible apply sameB); with_reducible assumption))))
def spPartOf (_ : PySem.W.Frag) : Sp := fun vs H Q _ => ∃ p q r : Int, vs = [.int p, .int q, .int r] ∧ q ≠ 0 ∧ q.natAbs < 2 ^ 60 ∧ Q (.int (partI p q r)) H
theorem okPartOf (T : Txt K mg fa fd) : FnOk P w K mg base CX0 1 (fa 8) (fd 8) ["p", "q", "root"] (spPartOf K) := by
  refine T.F__part_of.ok scPartOf (fun vs H Q E h => ?_) (fun cdv A outer s H vs Q E hr h => ?_)
  · obtain ⟨p, q, r, rfl, h0, h1, Qd⟩ := h
    rfl
  · obtain ⟨p, q, r, rfl, h0, h1, Qd⟩ := h
    refine ⟨_, (pss_cons (ps_if (pt_cmp (pc_gt (pv 1) pe_int))
      (pss_one (ps_ret (pe_op op_fdivX (pe_op op_add (pv 0) (pv 2)) (pv 1))))
      pss_nil)
      (pss_one (ps_ret (pe_op op_fdivX (pe_op op_add (pe_op op_add (pv 0) (pv 2)) pe_int) (pv 1))))), ?_⟩
    have h2 : q.natAbs < 2 ^ 9000 := pow_up h1 (by decide)
    unfold partI at Qd
    refine ⟨_, rfl, _, _, rfl, rfl, _, rfl, way2 (fun h => ?_) (fun h => ?_)⟩
    · rw [if_pos h] at Qd
      exact ⟨_, rfl, _, rfl, _, _, rfl, rfl, _, rfl, _, _, rfl, rfl, ⟨h0, h2⟩, Qd⟩
    · rw [if_neg h] at Qd
      exact ⟨_, rfl, _, rfl, _, _, rfl, rfl, _, _, rfl, rfl, _, rfl, _, _, rfl, rfl, ⟨h0, h2⟩, Qd⟩
def spExpand (_ : PySem.W.Frag) : Sp := fun vs H Q _ => ∃ (p q d : Int) (n j : Nat), vs = [.int p, .int q, .int d] ∧ ExOk p q d n j ∧
  ∀ H' t t1 t2, Same H H' → H' t = some (.tup [.ref t1, .ref t2]) → H' t1 = some (.tup ((((List.range n).map (cfa d (p, q))).take j).map V.int)) → H' t2 = some (.tup ((((List.range n).map (cfa d (p, q))).drop j).map V.int)) → Q (.ref t) H'
theorem okExpand (T : Txt K mg fa fd) : FnOk P w K mg base CX0 3 (fa 7) (fd 7) ["p", "q", "d"] (spExpand K) := by
  refine T.F_expand.ok scExpand (fun vs H Q E h => ?_) (fun cdv A outer s H vs Q E hr h => ?_)
  · obtain ⟨p, q, d, n, j, rfl, hE, Qd⟩ := h
    rfl
  · obtain ⟨p, q, d, n, j, rfl, hE, Qd⟩ := h
    refine ⟨_, (pss_cons (ps_if (PW.pt (pw_or (pt_val (pe_call (sp := spIsSquare K) (okIsSquare T) hr (by rfl) T.G_is_square T.F_is_square.kp T.B_is_square .nil pass0 (pa_cons (pv 2) pa_nil))) (pw_or (pt_cmp (pc_eqI (pv 1) pe_int)) (pw_or1 (pt_cmp (pc_neI (pe_op op_modN (pe_op op_sub (pv 2) (pe_op op_mul (pv 0) (pv 0))) (pv 1)) pe_int))))))
      (pss_one ps_never)
      pss_nil)
      (pss_cons (ps_set (i := 3) scExpand.nd rfl (Or.inl rfl) (pe_call (sp := spFloorRoot K) (okFloorRoot T) (hr.mono (by decide)) (by rfl) T.G_floor_root T.F_floor_root.kp T.B_floor_root .nil pass0 (pa_cons (pv 2) pa_nil)))
      (pss_cons (ps_set (i := 4) scExpand.nd rfl (Or.inl rfl) pe_dnewT)
      (pss_cons (ps_set (i := 5) scExpand.nd rfl (Or.inl rfl) (pe_lst pa_nil))
      (pss_cons (ps_while PassesOwn.never (pt_cmp (pc_dnotin (hu_of hr) (pe_tup (pa_cons (pv 0) (pa_cons (pv 1) pa_nil))) (pv 4)))
      (pss_cons (ps_dput (hu_of hr) (pv 4) (pe_tup (pa_cons (pv 0) (pa_cons (pv 1) pa_nil))) (pe_callB (lenQ K) (by rfl) T.m_len (by decide +kernel) (pa_cons (pv 5) pa_nil)) rfl)
        (pss_cons (ps_set (i := 6) scExpand.nd rfl (Or.inl rfl) (pe_call (sp := spPartOf K) (okPartOf T) (hr.mono (by decide)) (by rfl) T.G__part_of T.F__part_of.kp T.B__part_of .nil pass0 (pa_cons (pv 0) (pa_cons (pv 1) (pa_cons (pv 3) pa_nil)))))
        (pss_cons (ps_expr (pe_bm PySem.F.plainAttrs_list PySem.F.slot_list_append PySem.F.type_list_append mt_append (pv 5) (pa_cons (pv 6) pa_nil)))
        (pss_cons (ps_set (i := 0) scExpand.nd rfl (Or.inl rfl) (pe_op op_sub (pe_op op_mul (pv 6) (pv 1)) (pv 0)))
        (pss_one (ps_set (i := 1) scExpand.nd rfl (Or.inl rfl) (pe_op op_fdivX (pe_op op_sub (pv 2) (pe_op op_mul (pv 0) (pv 0))) (pv 1)))))))))
      (pss_cons (ps_set (i := 7) scExpand.nd rfl (Or.inl rfl) (pe_dget (hu_of hr) (pv 4) (pe_tup (pa_cons (pv 0) (pa_cons (pv 1) pa_nil))) (fun _ _ => rfl)))
      (pss_one (ps_ret (pe_tup (pa_cons (pe_callTy (tupQ K) (by rfl) T.m_tuple (by decide +kernel) (pa_cons (pe_slice (slL K) (pv 5) po_none (po_some (pv 7))) pa_nil)) (pa_cons (pe_callTy (tupQ K) (by rfl) T.m_tuple (by decide +kernel) (pa_cons (pe_slice (slL K) (pv 5) (po_some (pv 7)) po_none) pa_nil)) pa_nil))))))))))), ?_⟩
    obtain ⟨hd0, hd1, hns, hq0, hdv, hjn, hn, hrep, hun, hsz⟩ := hE
    have hd2 : d < 1152921504606846976 := hd1
    obtain ⟨p60, q60, _⟩ := hsz 0 (by omega)
    have p61 : p.natAbs < 1152921504606846976 := p60
    have q61 : q.natAbs < 1152921504606846976 := q60
    have d13 : d.natAbs < 2 ^ 13000 := pow_up (a := 60) (by show d.natAbs < 1152921504606846976; omega) (by decide)
    refine ⟨_, rfl, d, rfl, d13, _, rfl, wayF (fun z => hns z.2) ?_⟩
    refine ⟨_, rfl, _, _, rfl, rfl, _, rfl, wayF hq0 ?_⟩
    refine ⟨_, rfl, _, rfl, _, rfl, _, _, rfl, rfl, .inl ⟨by omega, by omega⟩, _, _, rfl, rfl, _, rfl, _, _, rfl, rfl, hq0, _, _, rfl, rfl, _, rfl, wayNF hdv ?_⟩
    refine ⟨_, rfl, d, rfl, hd0, d13, ?_⟩
    refine fun dp ndp => ⟨Nat.zero_le _, fun pp npp => ?_⟩
    have npp0 : H pp = none := by
      cases e : H pp with
      | none => rfl
      | some o =>
        rw [same_upd ndp _ _ e] at npp
        cases npp
    have dpp : dp ≠ pp := ne_of_none (upd_same (H := H) (o := .dT [])) npp
    let f : Nat → Int × Int := cf d (rootI d) (p, q)
    have hf : ∀ i, f (i + 1) = nxt d (rootI d) (f i) := fun i => rfl
    refine ⟨fun m σ H' => ∃ (i : Nat) (x6 : Option V), σ = [some (.int (f i).1), some (.int (f i).2), some (.int d), some (.int (rootI d)), some (.ref dp), some (.ref pp), x6, none] ∧ i ≤ n ∧ m = n - i ∧ Same H H' ∧ H' dp = some (.dT (ckv f i)) ∧ H' pp = some (.lst (((List.range i).map (cfa d (p, q))).map V.int)),
      ⟨n, 0, none, rfl, by omega, by omega, (same_upd ndp).trans (same_upd npp), ?_, upd_same⟩, ?_⟩
    · rw [upd_ne dpp]
      exact upd_same
    rintro m σ H' ⟨i, x6, rfl, hi, rfl, hs, hdp, hpp⟩
    obtain ⟨s1, s2, s3⟩ := hsz i hi
    have s1' : (f i).1.natAbs < 1152921504606846976 := s1
    have s2' : (f i).2.natAbs < 1152921504606846976 := s2
    refine ⟨_, rfl, _, rfl, by show 2 ≤ sizeLine; decide, fun t nt => ?_⟩
    have hdp2 := same_upd (o := .tup [.int (f i).1, .int (f i).2]) nt _ _ hdp
    have hpp2 := same_upd (o := .tup [.int (f i).1, .int (f i).2]) nt _ _ hpp
    refine ⟨_, rfl, dp, _, rfl, DGet.t (k := ckey (f i)) hdp2 upd_same, ?_⟩
    by_cases hin : i < n
    · have hno : ∀ a, a < i → f a ≠ f i := fun a ha => hun a i ha hin
      rw [ckv_none hno]
      refine ⟨_, rfl, iteT ?_⟩
      refine ⟨fun σ' H2 => ∃ (x6 : Option V), σ' = [some (.int (f (i + 1)).1), some (.int (f (i + 1)).2), some (.int d), some (.int (rootI d)), some (.ref dp), some (.ref pp), x6, none] ∧ Same H H2 ∧ H2 dp = some (.dT (ckv f (i + 1))) ∧ H2 pp = some (.lst (((List.range (i + 1)).map (cfa d (p, q))).map V.int)), ?_, ?_⟩
      · rintro σ' H2 ⟨x6', e1, e2, e3, e4⟩
        exact ⟨n - (i + 1), by omega, i + 1, x6', e1, by omega, rfl, e2, e3, e4⟩
      · refine ⟨_, rfl, _, _, rfl, .inl (SqL.of hpp2), _, rfl, _, rfl, _, rfl, by show 2 ≤ sizeLine; decide, fun t2 nt2 => ?_⟩
        rw [show ((((List.range i).map (cfa d (p, q))).map V.int).length : Int) = (i : Int) by simp]
        have hdp3 := same_upd (o := .tup [.int (f i).1, .int (f i).2]) nt2 _ _ hdp2
        have hpp3 := same_upd (o := .tup [.int (f i).1, .int (f i).2]) nt2 _ _ hpp2
        have hs3 : Same H (upd (upd H' t (.tup [.int (f i).1, .int (f i).2])) t2 (.tup [.int (f i).1, .int (f i).2])) := (hs.trans (same_upd nt)).trans (same_upd nt2)
        refine ⟨dp, _, rfl, DPut.t (k := ckey (f i)) hdp3 upd_same ?_, ?_⟩
        · rw [ckv_len]
          exact Nat.lt_of_lt_of_le (Nat.lt_of_lt_of_le hin hn) (by decide)
        rw [ckv_put hno]
        generalize upd (upd H' t (.tup [.int (f i).1, .int (f i).2])) t2 (.tup [.int (f i).1, .int (f i).2]) = H4 at hdp3 hpp3 hs3 ⊢
        have hs4 : Same H (upd H4 dp (.dT (ckv f (i + 1)))) := same_mut hs3 ndp
        have hpp4 : (upd H4 dp (.dT (ckv f (i + 1)))) pp = some (.lst (((List.range i).map (cfa d (p, q))).map V.int)) := by
          rw [upd_ne dpp.symm]
          exact hpp3
        have hdp4 : (upd H4 dp (.dT (ckv f (i + 1)))) dp = some (.dT (ckv f (i + 1))) := upd_same
        generalize upd H4 dp (.dT (ckv f (i + 1))) = H5 at hs4 hpp4 hdp4 ⊢
        refine ⟨_, rfl, _, rfl, _, rfl, _, _, _, rfl, s3, s2, ?_⟩
        refine ⟨_, rfl, .inl ⟨rfl, _, SqL.of hpp4⟩, _, rfl, _, _, _, rfl, rfl, hpp4, ?_, ?_⟩
        · rw [List.length_map, List.length_map, List.length_range]
          exact Nat.lt_of_lt_of_le (Nat.lt_of_lt_of_le hin hn) (by decide)
        refine ⟨_, rfl, _, rfl, _, _, rfl, rfl, .inr ⟨by omega, by omega⟩, _, rfl, _, _, rfl, rfl, ?_⟩
        obtain ⟨w1, w2, w3⟩ := hsz (i + 1) (by omega)
        have w1' : (f (i + 1)).1.natAbs < 1152921504606846976 := w1
        have e1 : partI (f i).1 (f i).2 (rootI d) * (f i).2 - (f i).1 = (f (i + 1)).1 := rfl
        have bnd : -(2 ^ 64) < partI (f i).1 (f i).2 (rootI d) * (f i).2 - (f i).1 ∧ partI (f i).1 (f i).2 (rootI d) * (f i).2 - (f i).1 < 2 ^ 64 := by
          rw [e1]
          omega
        refine ⟨_, rfl, _, rfl, _, rfl, _, _, rfl, rfl, .inl bnd, _, _, rfl, rfl, _, rfl, _, _, rfl, rfl, ⟨s3, pow_up s2 (by decide)⟩, ?_⟩
        refine ⟨_, rfl, same_mut hs4 npp0, ?_, ?_⟩
        · rw [upd_ne dpp]
          exact hdp4
        · rw [upd_same, List.range_succ, List.map_append, List.map_append]
          rfl
    · have ein : i = n := by omega
      subst ein
      have hj : valV (ckv f i) (ckey (f i)) = some (.int (j : Int)) := ckv_some (j := j) hrep.symm hjn fun a ha => fun e => hun a j ha hjn (e.trans hrep)
      rw [hj]
      refine ⟨_, rfl, iteF ?_⟩
      have hs2 : Same H (upd H' t (.tup [.int (f i).1, .int (f i).2])) := hs.trans (same_upd nt)
      generalize upd H' t (.tup [.int (f i).1, .int (f i).2]) = H2 at hdp2 hpp2 hs2 ⊢
      refine ⟨_, rfl, _, rfl, _, rfl, by show 2 ≤ sizeLine; decide, fun t2 nt2 => ?_⟩
      have hdp3 := same_upd (o := .tup [.int (f i).1, .int (f i).2]) nt2 _ _ hdp2
      have hpp3 := same_upd (o := .tup [.int (f i).1, .int (f i).2]) nt2 _ _ hpp2
      refine ⟨dp, .int (j : Int), rfl, ?_, ?_⟩
      · rw [← hj]
        exact DGet.t (k := ckey (f i)) hdp3 upd_same
      have hs3 := hs2.trans (same_upd (o := .tup [.int (f i).1, .int (f i).2]) nt2)
      generalize upd H2 t2 (.tup [.int (f i).1, .int (f i).2]) = H3 at hpp3 hs3 ⊢
      refine ⟨_, rfl, _, rfl, _, rfl, pp, _, rfl, SqL.of hpp3, fun c nc => ⟨c, _, rfl, .inl ⟨SqL.of upd_same, fun t1 nt1 => ?_⟩⟩⟩
      rw [cut_to]
      have sA := same_upd (o := .lst ((((List.range i).map (cfa d (p, q))).take j).map V.int)) nc
      have sB := same_upd (o := .tup ((((List.range i).map (cfa d (p, q))).take j).map V.int)) nt1
      rw [cut_to] at nt1 sB
      have hpp4 := sB _ _ (sA _ _ hpp3)
      have ht1 : (upd (upd H3 c (.lst ((((List.range i).map (cfa d (p, q))).take j).map V.int))) t1 (.tup ((((List.range i).map (cfa d (p, q))).take j).map V.int))) t1 = some (.tup ((((List.range i).map (cfa d (p, q))).take j).map V.int)) := upd_same
      have hs4 := (hs3.trans sA).trans sB
      generalize upd (upd H3 c (.lst ((((List.range i).map (cfa d (p, q))).take j).map V.int))) t1 (.tup ((((List.range i).map (cfa d (p, q))).take j).map V.int)) = H4 at hpp4 ht1 hs4 ⊢
      refine ⟨_, rfl, _, rfl, _, rfl, pp, _, rfl, SqL.of hpp4, fun c2 nc2 => ⟨c2, _, rfl, .inl ⟨SqL.of upd_same, fun t3 nt3 => ?_⟩⟩⟩
      rw [cut_from, ← List.map_drop] at nt3 ⊢
      refine ⟨by show 2 ≤ sizeLine; decide, fun tt ntt => ?_⟩
      have sC := same_upd (o := .lst ((((List.range i).map (cfa d (p, q))).drop j).map V.int)) nc2
      have sD := same_upd (o := .tup ((((List.range i).map (cfa d (p, q))).drop j).map V.int)) nt3
      have sE := same_upd (o := .tup [.ref t1, .ref t3]) ntt
      exact Qd _ tt t1 t3 (((hs4.trans sC).trans sD).trans sE) upd_same (sE _ _ (sD _ _ (sC _ _ ht1))) (sE _ _ upd_same)
def spConvergents (K : PySem.W.Frag) : Sp := fun vs H Q _ => ∃ (l : Addr) (ns : List Int), vs = [.ref l] ∧ (SqL K H l (ns.map V.int) ∨ SqT K H l (ns.map V.int)) ∧ ns.length ≤ 100000 ∧ (∀ n ∈ ns, n.natAbs < 2 ^ 60) ∧
  ∀ H' r as, Same H H' → H r = none → H' r = some (.lst (as.map V.ref)) → Prs H' as (cvl ns) → Q (.ref r) H'
theorem okConvergents (T : Txt K mg fa fd) : FnOk P w K mg base CX0 1 (fa 9) (fd 9) ["parts"] (spConvergents K) := by
  refine T.F_convergents.ok scConvergents (fun vs H Q E h => ?_) (fun cdv A outer s H vs Q E hr h => ?_)
  · obtain ⟨l, ns, rfl, hS, hlen, hb60, q⟩ := h
    rfl
  · obtain ⟨l, ns, rfl, hS, hlen, hb60, q⟩ := h
    rcases hS with hS | hS
    · refine ⟨_, (pss_cons (ps_set (i := 1) scConvergents.nd rfl (Or.inl rfl) (pe_lst pa_nil))
      (pss_cons (ps_set (i := 2) scConvergents.nd rfl (Or.inl rfl) (pe_tup (pa_cons pe_int (pa_cons pe_int pa_nil))))
      (pss_cons (ps_set (i := 3) scConvergents.nd rfl (Or.inl rfl) (pe_tup (pa_cons pe_int (pa_cons pe_int pa_nil))))
      (pss_cons (ps_for PassesOwn.never rfl (piL K (pv 0)) (pg_name (i := 4) scConvergents.nd rfl (Or.inl rfl))
      (pss_cons (ps_par (i := 2) (j := 3) (by rfl) scConvergents.nd rfl rfl (by decide) rfl rfl (pa_cons (pv 3) (pa_cons (pe_tup (pa_cons (pe_op op_add (pe_op op_mul (pv 4) (pe_ix (ixT K) (pv 3) pe_int (fun _ _ => rfl))) (pe_ix (ixT K) (pv 2) pe_int (fun _ _ => rfl))) (pa_cons (pe_op op_add (pe_op op_mul (pv 4) (pe_ix (ixT K) (pv 3) pe_int (fun _ _ => rfl))) (pe_ix (ixT K) (pv 2) pe_int (fun _ _ => rfl))) pa_nil))) pa_nil)) (by rfl))
        (pss_one (ps_expr (pe_bm PySem.F.plainAttrs_list PySem.F.slot_list_append PySem.F.type_list_append mt_append (pv 1) (pa_cons (pv 3) pa_nil))))))
      (pss_one (ps_ret (pv 1))))))), ?_⟩
      refine ⟨Nat.zero_le _, fun r nr => ⟨by show 2 ≤ sizeLine; decide, fun b0 nb0 => ⟨by show 2 ≤ sizeLine; decide, fun l0 nl0 => ?_⟩⟩⟩
      have s1 := same_upd (o := .lst []) nr
      have s2 := same_upd (o := .tup [.int 0, .int 1]) nb0
      have s3 := same_upd (o := .tup [.int 1, .int 0]) nl0
      have hr0 := s3 _ _ (s2 _ _ (upd_same (H := H) (a := r) (o := .lst [])))
      have hb0 := s3 _ _ (upd_same (H := upd H r (.lst [])) (a := b0) (o := .tup [.int 0, .int 1]))
      have hl0 := upd_same (H := upd (upd H r (.lst [])) b0 (.tup [.int 0, .int 1])) (a := l0) (o := .tup [.int 1, .int 0])
      have hs0 := (s1.trans s2).trans s3
      generalize upd (upd (upd H r (.lst [])) b0 (.tup [.int 0, .int 1])) l0 (.tup [.int 1, .int 0]) = H0 at hr0 hb0 hl0 hs0 ⊢
      refine ⟨_, rfl, l, rfl, ⟨_, hs0.seq hS⟩, for_list (K := K) (a := l) (xs := ns.map V.int) (fun i σ H' => ∃ (bA lA : Addr) (x4 : Option V) (as : List Addr), σ = [some (.ref l), some (.ref r), some (.ref bA), some (.ref lA), x4] ∧ Same H H' ∧ H' bA = some (.tup [.int (cst (ns.take i)).1.1, .int (cst (ns.take i)).1.2]) ∧ H' lA = some (.tup [.int (cst (ns.take i)).2.1, .int (cst (ns.take i)).2.2]) ∧ H' r = some (.lst (as.map V.ref)) ∧ Prs H' as (cvl (ns.take i)))
        ⟨b0, l0, none, [], rfl, hs0, hb0, hl0, hr0, .nil⟩ (fun i σ H' hi ⟨bA, lA, x4, as, e1, e2, _⟩ => e2.seq hS) (fun i x σ H' hx ⟨bA, lA, x4, as, e1, hs, hb, hl, hr, hp⟩ => ?_) (fun σ H' ⟨bA, lA, x4, as, e1, hs, hb, hl, hr, hp⟩ => ?_)⟩
      · subst e1
        rw [List.getElem?_map] at hx
        cases hn : ns[i]? with
        | none =>
          rw [hn] at hx
          cases hx
        | some n =>
          rw [hn] at hx
          cases hx
          have hil : i < ns.length := (List.getElem?_eq_some_iff.mp hn).1
          have nb : n.natAbs < 1152921504606846976 := hb60 n (List.mem_of_getElem? hn)
          refine ⟨_, rfl, _, rfl, _, rfl, _, _, _, _, rfl, rfl, SqT.of hl, atI_nat (j := 0) rfl, _, _, rfl, rfl, .inl ⟨by omega, by omega⟩, _, rfl, _, _, _, _, rfl, rfl, SqT.of hb, atI_nat (j := 0) rfl, _, _, rfl, rfl, ?_⟩
          refine ⟨_, rfl, _, rfl, _, _, _, _, rfl, rfl, SqT.of hl, atI_nat (j := 1) rfl, _, _, rfl, rfl, .inl ⟨by omega, by omega⟩, _, rfl, _, _, _, _, rfl, rfl, SqT.of hb, atI_nat (j := 1) rfl, _, _, rfl, rfl, by show 2 ≤ sizeLine; decide, fun t nt => ⟨_, _, rfl, ?_⟩⟩
          have st := cst_take hn
          have sa := same_upd (o := .tup [.int (n * (cst (ns.take i)).2.1 + (cst (ns.take i)).1.1), .int (n * (cst (ns.take i)).2.2 + (cst (ns.take i)).1.2)]) nt
          have hr2 := sa _ _ hr
          refine ⟨_, rfl, .inl ⟨rfl, _, SqL.of hr2⟩, _, rfl, _, _, _, rfl, rfl, hr2, ?_, ?_⟩
          · rw [List.length_map, hp.len]
            unfold cvl
            rw [List.length_map, List.length_range, List.length_take]
            exact Nat.lt_of_lt_of_le (show min i ns.length < 100000 by omega) (by decide)
          have tr : t ≠ r := (ne_of_none hr nt).symm
          have keep : ∀ b xs, (upd H' t (.tup [.int (n * (cst (ns.take i)).2.1 + (cst (ns.take i)).1.1), .int (n * (cst (ns.take i)).2.2 + (cst (ns.take i)).1.2)])) b = some (.tup xs) → (upd (upd H' t (.tup [.int (n * (cst (ns.take i)).2.1 + (cst (ns.take i)).1.1), .int (n * (cst (ns.take i)).2.2 + (cst (ns.take i)).1.2)])) r (.lst (as.map V.ref ++ [.ref t]))) b = some (.tup xs) := fun b xs e => by
            rw [upd_ne (ne_of e hr2 (by intro z; cases z))]
            exact e
          refine ⟨lA, t, some (.int n), as ++ [t], rfl, same_mut (hs.trans sa) nr, ?_, ?_, ?_, ?_⟩
          · rw [st]
            exact keep _ _ (sa _ _ hl)
          · rw [st]
            exact keep _ _ upd_same
          · rw [upd_same, List.map_append]
            rfl
          · rw [cvl_take hil]
            refine ((hp.same sa).mono keep).snoc ?_
            rw [st]
            exact keep _ _ upd_same
      · subst e1
        rw [List.length_map, List.take_length] at hp
        exact ⟨_, rfl, q _ r as hs nr hr hp⟩
    · refine ⟨_, (pss_cons (ps_set (i := 1) scConvergents.nd rfl (Or.inl rfl) (pe_lst pa_nil))
      (pss_cons (ps_set (i := 2) scConvergents.nd rfl (Or.inl rfl) (pe_tup (pa_cons pe_int (pa_cons pe_int pa_nil))))
      (pss_cons (ps_set (i := 3) scConvergents.nd rfl (Or.inl rfl) (pe_tup (pa_cons pe_int (pa_cons pe_int pa_nil))))
      (pss_cons (ps_for PassesOwn.never rfl (piT K (pv 0)) (pg_name (i := 4) scConvergents.nd rfl (Or.inl rfl))
      (pss_cons (ps_par (i := 2) (j := 3) (by rfl) scConvergents.nd rfl rfl (by decide) rfl rfl (pa_cons (pv 3) (pa_cons (pe_tup (pa_cons (pe_op op_add (pe_op op_mul (pv 4) (pe_ix (ixT K) (pv 3) pe_int (fun _ _ => rfl))) (pe_ix (ixT K) (pv 2) pe_int (fun _ _ => rfl))) (pa_cons (pe_op op_add (pe_op op_mul (pv 4) (pe_ix (ixT K) (pv 3) pe_int (fun _ _ => rfl))) (pe_ix (ixT K) (pv 2) pe_int (fun _ _ => rfl))) pa_nil))) pa_nil)) (by rfl))
        (pss_one (ps_expr (pe_bm PySem.F.plainAttrs_list PySem.F.slot_list_append PySem.F.type_list_append mt_append (pv 1) (pa_cons (pv 3) pa_nil))))))
      (pss_one (ps_ret (pv 1))))))), ?_⟩
      refine ⟨Nat.zero_le _, fun r nr => ⟨by show 2 ≤ sizeLine; decide, fun b0 nb0 => ⟨by show 2 ≤ sizeLine; decide, fun l0 nl0 => ?_⟩⟩⟩
      have s1 := same_upd (o := .lst []) nr
      have s2 := same_upd (o := .tup [.int 0, .int 1]) nb0
      have s3 := same_upd (o := .tup [.int 1, .int 0]) nl0
      have hr0 := s3 _ _ (s2 _ _ (upd_same (H := H) (a := r) (o := .lst [])))
      have hb0 := s3 _ _ (upd_same (H := upd H r (.lst [])) (a := b0) (o := .tup [.int 0, .int 1]))
      have hl0 := upd_same (H := upd (upd H r (.lst [])) b0 (.tup [.int 0, .int 1])) (a := l0) (o := .tup [.int 1, .int 0])
      have hs0 := (s1.trans s2).trans s3
      generalize upd (upd (upd H r (.lst [])) b0 (.tup [.int 0, .int 1])) l0 (.tup [.int 1, .int 0]) = H0 at hr0 hb0 hl0 hs0 ⊢
      refine ⟨_, rfl, l, rfl, ⟨_, same_seqT hs0 hS⟩, for_tup (K := K) (a := l) (xs := ns.map V.int) (fun i σ H' => ∃ (bA lA : Addr) (x4 : Option V) (as : List Addr), σ = [some (.ref l), some (.ref r), some (.ref bA), some (.ref lA), x4] ∧ Same H H' ∧ H' bA = some (.tup [.int (cst (ns.take i)).1.1, .int (cst (ns.take i)).1.2]) ∧ H' lA = some (.tup [.int (cst (ns.take i)).2.1, .int (cst (ns.take i)).2.2]) ∧ H' r = some (.lst (as.map V.ref)) ∧ Prs H' as (cvl (ns.take i)))
        ⟨b0, l0, none, [], rfl, hs0, hb0, hl0, hr0, .nil⟩ (fun i σ H' hi ⟨bA, lA, x4, as, e1, e2, _⟩ => same_seqT e2 hS) (fun i x σ H' hx ⟨bA, lA, x4, as, e1, hs, hb, hl, hr, hp⟩ => ?_) (fun σ H' ⟨bA, lA, x4, as, e1, hs, hb, hl, hr, hp⟩ => ?_)⟩
      · subst e1
        rw [List.getElem?_map] at hx
        cases hn : ns[i]? with
        | none =>
          rw [hn] at hx
          cases hx
        | some n =>
          rw [hn] at hx
          cases hx
          have hil : i < ns.length := (List.getElem?_eq_some_iff.mp hn).1
          have nb : n.natAbs < 1152921504606846976 := hb60 n (List.mem_of_getElem? hn)
          refine ⟨_, rfl, _, rfl, _, rfl, _, _, _, _, rfl, rfl, SqT.of hl, atI_nat (j := 0) rfl, _, _, rfl, rfl, .inl ⟨by omega, by omega⟩, _, rfl, _, _, _, _, rfl, rfl, SqT.of hb, atI_nat (j := 0) rfl, _, _, rfl, rfl, ?_⟩
          refine ⟨_, rfl, _, rfl, _, _, _, _, rfl, rfl, SqT.of hl, atI_nat (j := 1) rfl, _, _, rfl, rfl, .inl ⟨by omega, by omega⟩, _, rfl, _, _, _, _, rfl, rfl, SqT.of hb, atI_nat (j := 1) rfl, _, _, rfl, rfl, by show 2 ≤ sizeLine; decide, fun t nt => ⟨_, _, rfl, ?_⟩⟩
          have st := cst_take hn
          have sa := same_upd (o := .tup [.int (n * (cst (ns.take i)).2.1 + (cst (ns.take i)).1.1), .int (n * (cst (ns.take i)).2.2 + (cst (ns.take i)).1.2)]) nt
          have hr2 := sa _ _ hr
          refine ⟨_, rfl, .inl ⟨rfl, _, SqL.of hr2⟩, _, rfl, _, _, _, rfl, rfl, hr2, ?_, ?_⟩
          · rw [List.length_map, hp.len]
            unfold cvl
            rw [List.length_map, List.length_range, List.length_take]
            exact Nat.lt_of_lt_of_le (show min i ns.length < 100000 by omega) (by decide)
          have tr : t ≠ r := (ne_of_none hr nt).symm
          have keep : ∀ b xs, (upd H' t (.tup [.int (n * (cst (ns.take i)).2.1 + (cst (ns.take i)).1.1), .int (n * (cst (ns.take i)).2.2 + (cst (ns.take i)).1.2)])) b = some (.tup xs) → (upd (upd H' t (.tup [.int (n * (cst (ns.take i)).2.1 + (cst (ns.take i)).1.1), .int (n * (cst (ns.take i)).2.2 + (cst (ns.take i)).1.2)])) r (.lst (as.map V.ref ++ [.ref t]))) b = some (.tup xs) := fun b xs e => by
            rw [upd_ne (ne_of e hr2 (by intro z; cases z))]
            exact e
          refine ⟨lA, t, some (.int n), as ++ [t], rfl, same_mut (hs.trans sa) nr, ?_, ?_, ?_, ?_⟩
          · rw [st]
            exact keep _ _ (sa _ _ hl)
          · rw [st]
            exact keep _ _ upd_same
          · rw [upd_same, List.map_append]
            rfl
          · rw [cvl_take hil]
            refine ((hp.same sa).mono keep).snoc ?_
            rw [st]
            exact keep _ _ upd_same
      · subst e1
        rw [List.length_map, List.take_length] at hp
        exact ⟨_, rfl, q _ r as hs nr hr hp⟩
def spPartAt (K : PySem.W.Frag) : Sp := fun vs H Q _ => ∃ (t t1 t2 : Addr) (i : Nat) (xs ys : List Int) (v : Int), vs = [.ref t, .int (i : Int)] ∧ H t = some (.tup [.ref t1, .ref t2]) ∧ H t1 = some (.tup (xs.map V.int)) ∧ H t2 = some (.tup (ys.map V.int)) ∧ 0 < ys.length ∧
  (i < xs.length → xs[i]? = some v) ∧ (xs.length ≤ i → ys[(i - xs.length) % ys.length]? = some v) ∧ Q (.int v) H
theorem okPartAt (T : Txt K mg fa fd) : FnOk P w K mg base CX0 1 (fa 10) (fd 10) ["expansion", "index"] (spPartAt K) := by
  refine T.F_part_at.ok scPartAt (fun vs H Q E h => ?_) (fun cdv A outer s H vs Q E hr h => ?_)
  · obtain ⟨t, t1, t2, i, xs, ys, v, rfl, ht, h1, h2, hy, hv1, hv2, q⟩ := h
    rfl
  · obtain ⟨t, t1, t2, i, xs, ys, v, rfl, ht, h1, h2, hy, hv1, hv2, q⟩ := h
    refine ⟨_, (pss_cons (ps_asg (pv 0) (pgT K 2 (by rfl) (pgs_cons (pg_name (i := 2) scPartAt.nd rfl (Or.inl rfl)) (pgs_cons (pg_name (i := 3) scPartAt.nd rfl (Or.inl rfl)) pgs_nil))))
      (pss_cons (ps_if (pt_cmp (pc_lt (pv 1) (pe_callB (lenQ K) (by rfl) T.m_len (by decide +kernel) (pa_cons (pv 2) pa_nil))))
      (pss_one (ps_ret (pe_ix (ixT K) (pv 2) (pv 1) (fun _ _ => rfl))))
      pss_nil)
      (pss_one (ps_ret (pe_ix (ixT K) (pv 3) (pe_op op_mod (pe_op op_sub (pv 1) (pe_callB (lenQ K) (by rfl) T.m_len (by decide +kernel) (pa_cons (pv 2) pa_nil))) (pe_callB (lenQ K) (by rfl) T.m_len (by decide +kernel) (pa_cons (pv 3) pa_nil))) (fun _ _ => rfl)))))), ?_⟩
    refine ⟨_, rfl, t, _, rfl, SqT.of ht, rfl, _, _, rfl, _, _, rfl, rfl, ?_⟩
    refine ⟨_, rfl, _, rfl, _, _, rfl, .inr (SqT.of h1), _, _, rfl, rfl, _, rfl, way2 (fun h => ?_) (fun h => ?_)⟩
    · rw [List.length_map] at h
      have e := hv1 (by omega)
      exact ⟨_, rfl, _, rfl, _, _, _, _, rfl, rfl, SqT.of h1, atI_nat (by rw [List.getElem?_map, e]; rfl), q⟩
    · rw [List.length_map] at h
      have e := hv2 (by omega)
      refine ⟨_, rfl, _, rfl, _, rfl, _, _, rfl, .inr (SqT.of h1), _, _, rfl, rfl, _, rfl, _, _, rfl, .inr (SqT.of h2), _, _, rfl, rfl, ?_, _, _, _, _, rfl, rfl, SqT.of h2, at_of (j := (i - xs.length) % ys.length) ?_ (by rw [List.getElem?_map, e]; rfl), q⟩
      · show (0 : Int) < ((ys.map V.int).length : Int)
        rw [List.length_map]
        omega
      · rw [List.length_map, List.length_map, show (i : Int) - (xs.length : Int) = ((i - xs.length : Nat) : Int) by omega]
        exact (Int.natCast_emod _ _).symm
def spEvenTurn (_ : PySem.W.Frag) : Sp := fun vs H Q _ => ∃ (p0 q0 d : Int) (n j : Nat), vs = [.int p0, .int q0, .int d] ∧ EvOk p0 q0 d n j ∧ ∀ H' t, Same H H' → H' t = some (.tup [.int (cst (aG d (p0, q0) (pellN (n - j)))).2.1, .int (cst (aG d (p0, q0) (pellN (n - j)))).2.2]) → Q (.ref t) H'
theorem okEvenTurn (T : Txt K mg fa fd) : FnOk P w K mg base CX0 4 (fa 11) (fd 11) ["p", "q", "d"] (spEvenTurn K) := by
  refine T.F_even_turn.ok scEvenTurn (fun vs H Q E h => ?_) (fun cdv A outer s H vs Q E hr h => ?_)
  · obtain ⟨p0, q0, d, n, j, rfl, hP, q⟩ := h
    rfl
  · obtain ⟨p0, q0, d, n, j, rfl, hP, q⟩ := h
    refine ⟨_, (pss_cons (ps_set (i := 3) scEvenTurn.nd rfl (Or.inr rfl) (pe_call (sp := spExpand K) (okExpand T) hr (by rfl) T.G_expand T.F_expand.kp T.B_expand .nil pass0 (pa_cons (pv 0) (pa_cons (pv 1) (pa_cons (pv 2) pa_nil)))))
      (pss_cons (ps_set (i := 4) scEvenTurn.nd rfl (Or.inl rfl) (pe_callB (lenQ K) (by rfl) T.m_len (by decide +kernel) (pa_cons (pe_ix (ixT K) (pv 3) pe_int (fun _ _ => rfl)) pa_nil)))
      (C8.pss_cut (ps_if (pt_cmp (pc_eqI (pe_op op_mod (pv 4) pe_int) pe_int))
      (pss_one (ps_set (i := 4) scEvenTurn.nd rfl (Or.inl rfl) (pe_op op_mul pe_int (pv 4))))
      pss_nil)
      (pss_one (ps_ret (pe_ix (ixL K) (pe_call (sp := spConvergents K) (okConvergents T) (hr.mono (by decide)) (by rfl) T.G_convergents T.F_convergents.kp T.B_convergents .nil pass0 (pa_cons (pe_lc (own := [("index", 5)]) (g := gName 5) (tt := tYes) rfl scEvenTurn.nd (pi_range1 (by rfl) T.m_range (pa_cons (pv 4) pa_nil)) (blkOk_by (own := [("index", 5)]) (N := ["p", "q", "d", "expansion", "many", "index"]) (sc := defScope sEvenTurn) (by decide +kernel)) (fun _ _ _ _ _ => (pg_name (i := 5) scEvenTurn.nd rfl (Or.inl rfl))) (fun _ _ _ _ _ => pts_nil) (fun _ _ _ _ _ => (pe_call (sp := spPartAt K) (okPartAt T) (hr.mono (by decide)) (by rfl) T.G_part_at T.F_part_at.kp T.B_part_at .nil pass0 (pa_cons (pv 3) (pa_cons (pv 5) pa_nil))))) pa_nil)) (pe_un un_neg pe_int) (fun _ _ => rfl))))))), ?_⟩
    have hj := hP.ex.2.2.2.2.2.1
    have hle := hP.le
    obtain ⟨l, hl⟩ : ∃ l, n - j = l := ⟨_, rfl⟩
    have hl0 : 1 ≤ l := by omega
    have hl1 : l ≤ 40001 := by omega
    have hper := hP.period
    rw [hl] at q hper
    refine ⟨_, rfl, _, rfl, _, rfl, p0, q0, d, n, j, rfl, hP.ex, fun H1 t t1 t2 s1 ht ht1 ht2 => ?_⟩
    change H1 t1 = some (.tup (((aG d (p0, q0) n).take j).map V.int)) at ht1
    change H1 t2 = some (.tup (((aG d (p0, q0) n).drop j).map V.int)) at ht2
    refine ⟨_, rfl, _, _, _, _, rfl, rfl, SqT.of ht, atI_nat (j := 1) rfl, _, _, rfl, .inr (SqT.of ht2), ?_⟩
    have len2 : ((((aG d (p0, q0) n).drop j).map V.int).length : Int) = (l : Int) := by
      rw [List.length_map, List.length_drop, aG_len]
      omega
    rw [len2]
    refine ⟨fun σ H' => σ = [some (.int p0), some (.int q0), some (.int d), some (.ref t), some (.int ((pellN l : Nat) : Int)), none] ∧ H' = H1, ?_, ?_⟩
    · refine ⟨_, rfl, _, _, rfl, rfl, by show (0 : Int) < 2; decide, _, _, rfl, rfl, _, rfl, way2 (fun h => ?_) (fun h => ?_)⟩
      · refine ⟨_, rfl, _, _, rfl, rfl, .inl ⟨by decide, by decide⟩, ?_, rfl⟩
        have e : pellN l = 2 * l := by
          unfold pellN
          rw [if_pos (by omega)]
        rw [e]
        rfl
      · refine ⟨?_, rfl⟩
        have e : pellN l = l := by
          unfold pellN
          rw [if_neg (by omega)]
        rw [e]
        rfl
    · rintro σ H' ⟨rfl, rfl⟩
      have pn : 1 ≤ pellN l ∧ pellN l ≤ 80002 := by
        unfold pellN
        split <;> omega
      refine ⟨_, rfl, _, rfl, by omega, by omega, fun D nD => ?_⟩
      have eN : ((pellN l : Nat) : Int).toNat = pellN l := rfl
      rw [eN]
      refine lc_range (lo := 0) (n := pellN l) (fun i H2 => Same H' H2 ∧ H2 D = some (.lst ((aG d (p0, q0) i).map V.int)) ∧ Same H H2) ⟨same_upd nD, upd_same, s1.trans (same_upd nD)⟩ (fun i H2 hi ⟨a1, a2, a3⟩ => ?_) (fun H2 ⟨a1, a2, a3⟩ => ?_)
      · refine ⟨rfl, ?_⟩
        dsimp only [tYes]
        rw [if_pos rfl]
        refine ⟨_, rfl, _, rfl, t, t1, t2, i, (aG d (p0, q0) n).take j, (aG d (p0, q0) n).drop j, cfa d (p0, q0) i, ?_, a1 _ _ ht, a1 _ _ ht1, a1 _ _ ht2, ?_, ?_, ?_, ?_⟩
        · exact congrArg (fun z : Int => [V.ref t, V.int z]) (Int.zero_add _)
        · rw [List.length_drop, aG_len]
          omega
        · intro h
          rw [List.length_take, aG_len] at h
          rw [List.getElem?_take_of_lt (by omega)]
          exact aG_at (by omega)
        · intro h
          rw [List.length_take, aG_len] at h
          rw [List.length_take, aG_len, List.length_drop, aG_len, List.getElem?_drop, Nat.min_eq_left (by omega), hl]
          have hm := Nat.mod_lt (i - j) (show 0 < l by omega)
          rw [aG_at (by omega)]
          have e := hper (i - j)
          have e2 : j + (i - j) = i := by omega
          rw [e2] at e
          unfold cfa
          rw [e]
        · refine ⟨_, a2, ?_, fun b o e => ?_, ?_, fun b o e => ?_⟩
          · rw [List.length_map, aG_len]
            exact Nat.lt_of_lt_of_le (show i < 100000 by omega) (by decide)
          · rw [upd_ne (ne_of_none e nD)]
            exact a1 _ _ e
          · rw [upd_same, aG_succ, List.map_append]
            rfl
          · have nD0 : H D = none := by
              cases e1 : H D with
              | none => rfl
              | some o =>
                rw [s1 _ _ e1] at nD
                cases nD
            rw [upd_ne (ne_of_none e nD0)]
            exact a3 _ _ e
      · refine ⟨D, aG d (p0, q0) (pellN l), rfl, .inl (SqL.of a2), by rw [aG_len]; omega, fun n hn => ?_, fun H3 r as s3 nr hr hp => ?_⟩
        · obtain ⟨k, _, rfl⟩ := List.mem_map.mp hn
          exact hP.part k
        · have lc : (cvl (aG d (p0, q0) (pellN l))).length = pellN l := by
            unfold cvl
            rw [List.length_map, List.length_range, aG_len]
          have last : (cvl (aG d (p0, q0) (pellN l)))[pellN l - 1]? = some (cst (aG d (p0, q0) (pellN l))).2 := by
            unfold cvl
            rw [List.getElem?_map, List.getElem?_range (by rw [aG_len]; omega)]
            show some (cst ((aG d (p0, q0) (pellN l)).take (pellN l - 1 + 1))).2 = _
            rw [List.take_of_length_le (by rw [aG_len]; omega)]
          obtain ⟨a, ha1, ha2⟩ := hp.at last
          refine ⟨_, rfl, _, _, _, _, rfl, rfl, SqL.of hr, at_end ?_, q _ a (a3.trans s3) ha2⟩
          rw [List.length_map, hp.len, lc, List.getElem?_map, ha1]
          rfl
def spLeastUnit (K : PySem.W.Frag) : Sp := fun vs H Q _ => ∃ (d : Int) (n j : Nat) (x y : Int), vs = [.int d] ∧ EvOk (d % 2) 2 d n j ∧ (cst (aG d (d % 2, 2) (pellN (n - j)))).2 = (x, y) ∧ Bd 4000 x ∧ Bd 4000 y ∧ ∀ H' t, Same H H' → H' t = some (.tup [.int (2 * x - d % 2 * y), .int y]) → Q (.ref t) H'
theorem uLeastUnit {K : PySem.W.Frag} {H : Hp} {Q : VK} {E : XK} {vs : List V} {d x y : Int} {n j : Nat} (e : vs = [.int d]) (h1 : EvOk (d % 2) 2 d n j) (h2 : (cst (aG d (d % 2, 2) (pellN (n - j)))).2 = (x, y)) (b1 : Bd 4000 x) (b2 : Bd 4000 y) (kk : ∀ H' t, Same H H' → H' t = some (.tup [.int (2 * x - d % 2 * y), .int y]) → Q (.ref t) H') : spLeastUnit K vs H Q E := ⟨d, n, j, x, y, e, h1, h2, b1, b2, kk⟩
theorem okLeastUnit (T : Txt K mg fa fd) : FnOk P w K mg base CX0 5 (fa 12) (fd 12) ["d"] (spLeastUnit K) := by
  refine T.F_least_unit.ok scLeastUnit (fun vs H Q E h => ?_) (fun cdv A outer s H vs Q E hr h => ?_)
  · obtain ⟨d, n, j, x, y, rfl, hE, hxy, bx, by', kk⟩ := h
    rfl
  · obtain ⟨d, n, j, x, y, rfl, hE, hxy, bx, by', kk⟩ := h
    refine ⟨_, (pss_cons (ps_set (i := 1) scLeastUnit.nd rfl (Or.inl rfl) (pe_op op_mod (pv 0) pe_int))
      (pss_cons (ps_asg (pe_call (sp := spEvenTurn K) (okEvenTurn T) hr (by rfl) T.G_even_turn T.F_even_turn.kp T.B_even_turn .nil pass0 (pa_cons (pv 1) (pa_cons pe_int (pa_cons (pv 0) pa_nil)))) (pgT K 2 (by rfl) (pgs_cons (pg_name (i := 2) scLeastUnit.nd rfl (Or.inl rfl)) (pgs_cons (pg_name (i := 3) scLeastUnit.nd rfl (Or.inl rfl)) pgs_nil))))
      (pss_one (ps_ret (pe_tup (pa_cons (pe_op op_sub (pe_op op_mulW pe_int (pv 2)) (pe_op op_mulW (pv 1) (pv 3))) (pa_cons (pv 3) pa_nil))))))), ?_⟩
    have bo : Bd 8 (d % 2) := Bd.of (m := 1) (by omega) (by decide)
    clean_wf
    refine ⟨d % 2, 2, d, n, j, rfl, hE, ?_⟩
    intro H1 t s1 ht1
    rw [hxy] at ht1
    have st := SqT.of (K := K) ht1
    dsimp only at st
    clean_wf
    refine kk _ _ ?_ ht
    array_mem_dec
def spSelfChange (K : PySem.W.Frag) : Sp := fun vs H Q _ => ∃ (af : Addr) (a b c g A B C d : Int) (n j : Nat) (x y : Int), vs = [.ref af] ∧ SqT K H af [.int a, .int b, .int c] ∧ g ≠ 0 ∧ gL [a, b, c] = g ∧ a.fdiv g = A ∧ b.fdiv g = B ∧ c.fdiv g = C ∧ Bd 60 g ∧ Bd 60 A ∧ Bd 60 B ∧ Bd 60 C ∧ dsc A B C = d ∧ EvOk (d % 2) 2 d n j ∧ (cst (aG d (d % 2, 2) (pellN (n - j)))).2 = (x, y) ∧ Bd 4000 x ∧ Bd 4000 y ∧
  ∀ H' t, Same H H' → H' t = some (.tup [.int ((2 * x - d % 2 * y - B * y) / 2), .int (-C * y), .int (A * y), .int ((2 * x - d % 2 * y + B * y) / 2)]) → Q (.ref t) H'
theorem okSelfChange (T : Txt K mg fa fd) : FnOk P w K mg base CX0 6 (fa 13) (fd 13) ["form"] (spSelfChange K) := by
  refine T.F_self_change.ok scSelfChange (fun vs H Q E h => ?_) (fun cdv A outer s H vs Q E hr h => ?_)
  · obtain ⟨af, a, b, c, g, A, B, C, d, n, j, x, y, rfl, hs, g0, hg, hA, hB, hC, bg, bA, bB, bC, hd, hE, hxy, bx, by', kk⟩ := h
    rfl
  · obtain ⟨af, a, b, c, g, A, B, C, d, n, j, x, y, rfl, hs, g0, hg, hA, hB, hC, bg, bA, bB, bC, hd, hE, hxy, bx, by', kk⟩ := h
    refine ⟨_, (pss_cons (ps_set (i := 1) scSelfChange.nd rfl (Or.inl rfl) (pe_call (sp := spDivided K) (okDivided T) (hr.mono (by decide)) (by rfl) T.G_divided T.F_divided.kp T.B_divided .nil pass0 (pa_cons (pv 0) (pa_cons (pe_call (sp := spContent K) (okContent T) (hr.mono (by decide)) (by rfl) T.G_content T.F_content.kp T.B_content .nil pass0 (pa_cons (pv 0) pa_nil)) pa_nil))))
      (pss_cons (ps_asg (pe_call (sp := spLeastUnit K) (okLeastUnit T) hr (by rfl) T.G_least_unit T.F_least_unit.kp T.B_least_unit .nil pass0 (pa_cons (pe_call (sp := spDiscriminant K) (okDiscriminant T) (hr.mono (by decide)) (by rfl) T.G_discriminant T.F_discriminant.kp T.B_discriminant .nil pass0 (pa_cons (pv 1) pa_nil)) pa_nil)) (pgT K 2 (by rfl) (pgs_cons (pg_name (i := 2) scSelfChange.nd rfl (Or.inl rfl)) (pgs_cons (pg_name (i := 3) scSelfChange.nd rfl (Or.inl rfl)) pgs_nil))))
      (pss_one (ps_ret (pe_call (sp := spUnitChange K) (okUnitChange T) (hr.mono (by decide)) (by rfl) T.G_unit_change T.F_unit_change.kp T.B_unit_change .nil pass0 (pa_cons (pv 1) (pa_cons (pv 2) (pa_cons (pv 3) pa_nil)))))))), ?_⟩
    have bo : Bd 8 (d % 2) := Bd.of (m := 1) (by omega) (by decide)
    repeat' (first
      | with_reducible apply R.var
      | with_reducible apply R.gsE
      | ((with_reducible apply R.gsN); (focus exact rfl))
      | with_reducible apply R.lenS
      | ((with_reducible apply R.lenB); exact rfl)
      | ((with_reducible apply R.isEq); exact rfl)
      | with_reducible apply R.op
      | with_reducible apply R.i2
      | with_reducible apply R.i0
      | with_reducible apply R.con
      | with_reducible apply R.cons
      | with_reducible apply R.nil
      | ((with_reducible apply R.gBd); first | with_reducible assumption | with_reducible apply Bd.mul | with_reducible apply Bd.add | with_reducible apply Bd.sub | ((with_reducible apply Bd.l8); exact eq_true (by decide)) | ((with_reducible apply Bd.lit); exact eq_true (by decide)) | with_reducible apply Bd.neg | with_reducible apply Bd.div | with_reducible apply Bd.abs | with_reducible apply Bd.mod | with_reducible apply Bd.fdiv | ((with_reducible apply Bd.om); omega))
      | with_reducible apply Bd.mulW
      | ((with_reducible apply R.gSqT); first | with_reducible assumption | ((with_reducible apply SqT.of); with_reducible assumption) | ((with_reducible apply same_seqT); with_reducible assumption) | ((with_reducible apply kp_seqT); with_reducible assumption) | with_reducible apply hU)
      | ((with_reducible apply R.isLe); first | decide | omega)
      | with_reducible apply R.gcons
      | with_reducible apply R.gname
      | ((with_reducible apply R.ixT); (focus ((repeat' (first | with_reducible assumption | with_reducible apply hU | ((with_reducible apply SqT.of); with_reducible assumption) | ((with_reducible apply same_seqT); with_reducible assumption) | ((with_reducible apply kp_seqT); with_reducible assumption) | ((with_reducible apply Dw.same); with_reducible assumption))); done)); exact rfl)
      | ((with_reducible apply R.ixL); (focus ((repeat' (first | with_reducible assumption | ((with_reducible apply SqL.of); with_reducible assumption) | ((with_reducible apply Same.seq); with_reducible assumption) | ((with_reducible apply Kp.seqL); with_reducible assumption) | ((with_reducible apply fresh_ne); with_reducible assumption) | ((with_reducible apply Dw.same); with_reducible assumption))); done)); exact rfl)
      | with_reducible apply R.test
      | with_reducible apply R.tb'
      | with_reducible apply R.isbl
      | with_reducible apply R.cmp
      | with_reducible apply R.t2i
      | with_reducible apply R.intp
      | with_reducible apply R.ifs
      | with_reducible apply R.asg
      | with_reducible apply R.seq
      | with_reducible apply R.gtup
      | with_reducible apply R.u1
      | with_reducible apply R.un
      | with_reducible apply R.ret
      | with_reducible apply R.next
      | with_reducible apply R.call
      | with_reducible apply iteT
      | with_reducible apply iteF
      | with_reducible assumption
      | with_reducible apply R.tup
      | with_reducible apply R.lst
      | with_reducible apply R.callB
      | with_reducible apply R.gnil
      | with_reducible apply R.brk
      | with_reducible apply R.cont
      | with_reducible apply R.drop
      | with_reducible apply R.par
      | with_reducible apply R.par2
      | with_reducible apply R.par3
      | with_reducible apply R.par4
      | with_reducible apply R.tif
      | with_reducible apply R.and
      | with_reducible apply R.or
      | with_reducible apply R.not
      | with_reducible apply R.andV
      | with_reducible apply R.orV
      | with_reducible apply R.notV
      | with_reducible apply R.chain
      | with_reducible apply R.tupL
      | with_reducible apply R.lstL
      | with_reducible apply R.cat
      | with_reducible apply R.absI
      | with_reducible apply R.intI
      | with_reducible apply R.intB
      | with_reducible apply R.eqS
      | with_reducible apply R.eqBl
      | with_reducible apply R.neBl
      | with_reducible apply R.sl
      | with_reducible apply R.noPart
      | with_reducible apply R.part
      | with_reducible apply R.isInt
      | with_reducible apply R.slL
      | with_reducible apply R.isiT
      | with_reducible apply R.isiLst
      | with_reducible apply R.nwT
      | with_reducible apply R.nwL
      | ((with_reducible apply R.mt); intro HN tn sn nn ht)
      | ((with_reducible apply R.ml); intro HN tn sn nn ht)
      | ((with_reducible apply R.isiTupS); focus ((repeat' (first | with_reducible assumption | with_reducible apply hU | ((with_reducible apply SqT.of); with_reducible assumption) | ((with_reducible apply same_seqT); with_reducible assumption) | ((with_reducible apply kp_seqT); with_reducible assumption) | ((with_reducible apply Dw.same); with_reducible assumption))); done))
      | ((with_reducible apply R.ne4); focus ((repeat' (first | with_reducible assumption | with_reducible apply hU | ((with_reducible apply SqT.of); with_reducible assumption) | ((with_reducible apply same_seqT); with_reducible assumption) | ((with_reducible apply kp_seqT); with_reducible assumption) | ((with_reducible apply Dw.same); with_reducible assumption))); done))
      | ((with_reducible apply R.ne3); focus ((repeat' (first | with_reducible assumption | with_reducible apply hU | ((with_reducible apply SqT.of); with_reducible assumption) | ((with_reducible apply same_seqT); with_reducible assumption) | ((with_reducible apply kp_seqT); with_reducible assumption) | ((with_reducible apply Dw.same); with_reducible assumption))); done))
      | ((with_reducible apply R.ne2); focus ((repeat' (first | with_reducible assumption | with_reducible apply hU | ((with_reducible apply SqT.of); with_reducible assumption) | ((with_reducible apply same_seqT); with_reducible assumption) | ((with_reducible apply kp_seqT); with_reducible assumption) | ((with_reducible apply Dw.same); with_reducible assumption))); done))
      | ((with_reducible apply R.eq4); focus ((repeat' (first | with_reducible assumption | with_reducible apply hU | ((with_reducible apply SqT.of); with_reducible assumption) | ((with_reducible apply same_seqT); with_reducible assumption) | ((with_reducible apply kp_seqT); with_reducible assumption) | ((with_reducible apply Dw.same); with_reducible assumption))); done))
      | ((with_reducible apply R.eq3); focus ((repeat' (first | with_reducible assumption | with_reducible apply hU | ((with_reducible apply SqT.of); with_reducible assumption) | ((with_reducible apply same_seqT); with_reducible assumption) | ((with_reducible apply kp_seqT); with_reducible assumption) | ((with_reducible apply Dw.same); with_reducible assumption))); done))
      | ((with_reducible apply R.eq2); focus ((repeat' (first | with_reducible assumption | with_reducible apply hU | ((with_reducible apply SqT.of); with_reducible assumption) | ((with_reducible apply same_seqT); with_reducible assumption) | ((with_reducible apply kp_seqT); with_reducible assumption) | ((with_reducible apply Dw.same); with_reducible assumption))); done))
      | ((with_reducible apply R.nw); intro HN tn sn ht)
      | with_reducible apply R.notT
      | with_reducible apply R.notF
      | ((with_reducible apply SqL.of); with_reducible assumption)
      | ((with_reducible apply sameB); with_reducible assumption)
      | ((with_reducible apply same_at); with_reducible assumption)
      | ((with_reducible apply Same.seq); with_reducible assumption)
      | ((with_reducible apply Kp.seqL); with_reducible assumption)
      | ((with_reducible apply fresh_ne); with_reducible assumption)
      | ((with_reducible apply Dw.same); with_reducible assumption)
      | ((with_reducible apply R.isEq); exact eq_true (by first | decide | omega))
      | ((with_reducible apply R.isLt); first | decide | omega)
      | ((with_reducible apply R.isLtI); first | decide | omega)
      | ((with_reducible apply R.isLeI); first | decide | omega)
      | ((with_reducible apply R.cdiv); exact rfl)
      | ((with_reducible apply R.cpow); exact rfl)
      | with_reducible apply R.cdivX
      | ((with_reducible apply R.isNe); omega)
      | ((with_reducible apply wayNF); first | exact rfl | exact ⟨rfl, rfl⟩ | exact ⟨rfl, rfl, rfl⟩ | exact ⟨rfl, rfl, rfl, rfl⟩)
      | with_reducible apply R.bm
      | ((with_reducible apply R.bmT); (focus ((first | with_reducible assumption | ((with_reducible apply same_at); with_reducible assumption) | ((with_reducible apply kp_at); with_reducible assumption)); done)))
      | with_reducible apply R.dput
      | with_reducible apply R.dget
      | with_reducible apply R.din
      | with_reducible apply R.dget2
      | with_reducible apply R.forE
      | with_reducible apply R.rng1
      | with_reducible apply R.rng2
      | with_reducible apply R.rg1
      | with_reducible apply R.rg2
      | with_reducible apply R.lcE
      | with_reducible apply R.itup
      | with_reducible apply R.ilst
      | with_reducible apply uLawNext
      | with_reducible apply uLawWide
      | with_reducible apply uLawChange
      | with_reducible apply uLawMul
      | with_reducible apply uLawWorth
      | with_reducible apply uDiscriminant
      | with_reducible apply uLawAct
      | with_reducible apply uUnitChange
      | with_reducible apply uLawKind
      | with_reducible apply uLawSquare
      | with_reducible apply uLawRoot
      | with_reducible apply uFloorRoot
      | with_reducible apply uFloorRoot
      | with_reducible apply uDiscriminant
      | with_reducible apply uLawMeasure
      | with_reducible apply uContent
      | with_reducible apply uLawSplit
      | with_reducible apply uLawFlat
      | fail
      )
    rw [hg]
    refine uDivided rfl hs g0 bg (by decide) ?_
    rw [hA, hB, hC]
    clean_wf
    have ed : B * B - 4 * A * C = d := hd
    rw [ed]
    refine uLeastUnit rfl hE hxy bx by' ?_
    intro H1 t s1 ht1
    have st := SqT.of (K := K) ht1
    clean_wf
    refine kk _ _ ?_ ht
    array_mem_dec
def spLawCell (K : PySem.W.Frag) : Sp := fun vs H Q _ => ∃ (l : Addr) (ns : List Int) (j : Nat), vs = [.ref l, .int (j : Int)] ∧ SqL K H l (ns.map V.int) ∧ ∀ v : Int, Q (.int v) H
theorem okLawCell (T : Txt K mg fa fd) : FnOk P w K mg base CX0 1 (fa 14) (fd 14) ["script", "k"] (spLawCell K) := by
  refine T.F__law_cell.ok scLawCell (fun vs H Q E h => ?_) (fun cdv A outer s H vs Q E hr h => ?_)
  · obtain ⟨l, ns, j, rfl, hS, q⟩ := h
    rfl
  · obtain ⟨l, ns, j, rfl, hS, q⟩ := h
    refine ⟨_, (pss_cons (ps_if (pt_cmp (pc_lt (pv 1) (pe_callB (lenQ K) (by rfl) T.m_len (by decide +kernel) (pa_cons (pv 0) pa_nil))))
      (pss_one (ps_ret (pe_ix (ixL K) (pv 0) (pv 1) (fun _ _ => rfl))))
      pss_nil)
      (pss_one (ps_ret pe_int))), ?_⟩
    refine ⟨_, rfl, _, rfl, _, _, rfl, .inl hS, _, _, rfl, rfl, _, rfl, ite2 (fun e => ?_) (fun e => ?_)⟩
    · have e1 : (j : Int) < ((ns.map V.int).length : Int) := of_decide_eq_true e
      have hj : j < ns.length := by
        rw [List.length_map] at e1
        omega
      exact ⟨_, rfl, _, rfl, _, _, _, _, rfl, rfl, hS, atI_nat (by rw [List.getElem?_map, List.getElem?_eq_getElem hj]; rfl), q _⟩
    · exact q 0
def spLawNumbers (K : PySem.W.Frag) : Sp := fun vs H Q _ => ∃ (c : Int) (m : Nat), vs = [.int c, .int (m : Int)] ∧ m ≤ 100 ∧
  ∀ H' p (ns : List Int), Same H H' → H p = none → H' p = some (.lst (ns.map V.int)) → ns.length = m → (∀ n ∈ ns, 0 ≤ n ∧ n < 1000) → Q (.ref p) H'
theorem okLawNumbers (T : Txt K mg fa fd) : FnOk P w K mg base CX0 1 (fa 15) (fd 15) ["cell", "many"] (spLawNumbers K) := by
  refine T.F__law_numbers.ok scLawNumbers (fun vs H Q E h => ?_) (fun cdv A outer s H vs Q E hr h => ?_)
  · obtain ⟨c, m, rfl, hm, q⟩ := h
    rfl
  · obtain ⟨c, m, rfl, hm, q⟩ := h
    refine ⟨_, (pss_cons (ps_set (i := 2) scLawNumbers.nd rfl (Or.inl rfl) (pe_callB (absQ K) (by rfl) T.m_abs (by decide +kernel) (pa_cons (pv 0) pa_nil)))
      (pss_cons (ps_set (i := 3) scLawNumbers.nd rfl (Or.inl rfl) (pv 2))
      (pss_cons (ps_set (i := 4) scLawNumbers.nd rfl (Or.inl rfl) (pe_lst pa_nil))
      (pss_cons (ps_for PassesOwn.never rfl (pi_range1 (by rfl) T.m_range (pa_cons (pv 1) pa_nil)) (pg_name (i := 5) scLawNumbers.nd rfl (Or.inl rfl))
      (pss_one (ps_if (PW.pt (pw_and (pt_cmp (pc_ge (pv 3) (pe_op op_pow pe_int pe_int))) (pw_and1 (pt_cmp (pc_gt (pv 2) pe_int)))))
        (pss_cons (ps_expr (pe_bm PySem.F.plainAttrs_list PySem.F.slot_list_append PySem.F.type_list_append mt_append (pv 4) (pa_cons (pe_op op_mod (pe_callTy (intQ K) (by rfl) T.m_int (by decide +kernel) (pa_cons (pv 2) pa_nil)) pe_int) pa_nil)))
          (pss_one (ps_set (i := 2) scLawNumbers.nd rfl (Or.inl rfl) (pe_op op_fdiv (pv 2) pe_int))))
        (pss_cons (ps_set (i := 6) scLawNumbers.nd rfl (Or.inl rfl) (pe_op op_mod (pe_callTy (intQ K) (by rfl) T.m_int (by decide +kernel) (pa_cons (pe_op op_add (pe_op op_add (pe_op op_mul (pv 3) pe_int) (pe_op op_mul (pv 5) pe_int)) pe_int) pa_nil)) pe_int))
          (pss_cons (ps_set (i := 6) scLawNumbers.nd rfl (Or.inl rfl) (pe_op op_mod (pe_callTy (intQ K) (by rfl) T.m_int (by decide +kernel) (pa_cons (pe_op op_add (pe_op op_add (pe_op op_mul (pv 6) (pv 6)) (pe_op op_mul pe_int (pv 5))) pe_int) pa_nil)) pe_int))
          (pss_one (ps_expr (pe_bm PySem.F.plainAttrs_list PySem.F.slot_list_append PySem.F.type_list_append mt_append (pv 4) (pa_cons (pe_op op_mod (pe_callTy (intQ K) (by rfl) T.m_int (by decide +kernel) (pa_cons (pe_op op_fdiv (pv 6) pe_int) pa_nil)) pe_int) pa_nil)))))))))
      (pss_one (ps_ret (pv 4))))))), ?_⟩
    refine ⟨_, rfl, _, rfl, _, rfl, Nat.zero_le _, fun o no => ?_⟩
    refine ⟨_, rfl, _, rfl, by omega, by omega, for_range (lo := 0) (n := m) (fun i σ H' => ∃ (rest span : Int) (x5 x6 : Option V) (ns : List Int), σ = [some (.int c), some (.int (m : Int)), some (.int rest), some (.int span), some (.ref o), x5, x6] ∧ Same H H' ∧ H' o = some (.lst (ns.map V.int)) ∧ ns.length = i ∧ ∀ n ∈ ns, 0 ≤ n ∧ n < 1000)
      ⟨_, _, _, _, [], rfl, same_upd no, upd_same, rfl, fun n h => nomatch h⟩ (fun i σ H' hi ⟨rest, span, x5, x6, ns, hσ, hs, ho, hl, hb⟩ => ?_) (fun σ H' ⟨rest, span, x5, x6, ns, hσ, hs, ho, hl, hb⟩ => ?_)⟩
    · subst hσ
      have sz : (ns.map V.int).length < sizeLine := by
        rw [List.length_map]
        exact small1000 (by omega)
      have app : ∀ r : Int, 0 ≤ r → r < 1000 → (upd H' o (.lst (ns.map V.int ++ [V.int r]))) o = some (.lst ((ns ++ [r]).map V.int)) ∧ (ns ++ [r]).length = i + 1 ∧ ∀ n ∈ ns ++ [r], 0 ≤ n ∧ n < 1000 := fun r h0 h1 => by
        refine ⟨by rw [upd_same, List.map_append]; rfl, by rw [List.length_append, hl]; rfl, fun n hn => ?_⟩
        rcases List.mem_append.mp hn with hn | hn
        · exact hb n hn
        · rw [List.mem_singleton.mp hn]
          exact ⟨h0, h1⟩
      refine ⟨_, rfl, _, _, rfl, rfl, ⟨by decide, by decide, by decide⟩, _, _, rfl, rfl, _, rfl, ?_⟩
      have tl : ∀ (D : Ends) (rest' : Int) (x5' x6' : Option V) (r : Int), 0 ≤ r → r < 1000 → (∀ σ' H2, (∃ (rest span : Int) (x5 x6 : Option V) (ns : List Int), σ' = [some (.int c), some (.int (m : Int)), some (.int rest), some (.int span), some (.ref o), x5, x6] ∧ Same H H2 ∧ H2 o = some (.lst (ns.map V.int)) ∧ ns.length = i + 1 ∧ ∀ n ∈ ns, 0 ≤ n ∧ n < 1000) → D.nx σ' H2) → D.nx [some (.int c), some (.int (m : Int)), some (.int rest'), some (.int span), some (.ref o), x5', x6'] (upd H' o (.lst (ns.map V.int ++ [V.int r]))) := fun D rest' x5' x6' r h0 h1 k => by
        obtain ⟨a1, a2, a3⟩ := app r h0 h1
        exact k _ _ ⟨rest', span, x5', x6', _, rfl, same_mut hs no, a1, a2, a3⟩
      have m1 : ∀ z : Int, 0 ≤ z % 1000 ∧ z % 1000 < 1000 := fun z => by omega
      have m2 : ∀ z : Int, 0 ≤ z % 2147483647 ∧ z % 2147483647 < 2147483647 := fun z => by omega
      refine ite2 (fun e => ?_) (fun e => ?_)
      · refine ⟨_, rfl, _, _, rfl, rfl, _, rfl, ite2 (fun e => ?_) (fun e => ?_)⟩
        · refine ⟨_, rfl, .inl ⟨rfl, _, SqL.of ho⟩, _, rfl, .inl ⟨_, rfl, _, _, rfl, rfl, by show (0 : Int) < 1000; decide, _, _, _, rfl, rfl, ho, sz, ?_⟩⟩
          refine ⟨_, rfl, _, _, rfl, rfl, ⟨by decide, by decide⟩, ?_⟩
          obtain ⟨a1, a2, a3⟩ := app (rest % 1000) (m1 _).1 (m1 _).2
          exact ⟨_, _, _, _, _, rfl, same_mut hs no, a1, a2, a3⟩
        · refine ⟨_, rfl, _, _, rfl, rfl, .inr ⟨by decide, by decide⟩, _, rfl, _, _, rfl, rfl, .inr ⟨by decide, by decide⟩, _, _, rfl, rfl, _, _, rfl, rfl, .inl ⟨_, rfl, _, _, rfl, rfl, by show (0 : Int) < 2147483647; decide, ?_⟩⟩
          refine ⟨_, rfl, _, rfl, _, _, rfl, rfl, .inl ?_, _, rfl, _, _, rfl, rfl, .inl ⟨by decide, by decide⟩, _, _, rfl, rfl, _, _, rfl, rfl, .inl ⟨_, rfl, _, _, rfl, rfl, by show (0 : Int) < 2147483629; decide, ?_⟩⟩
          · have h := m2 (span * 48271 + (0 + (i : Int)) * 69621 + 11)
            omega
          refine ⟨_, rfl, .inl ⟨rfl, _, SqL.of ho⟩, _, rfl, _, _, rfl, rfl, ⟨by decide, by decide⟩, .inl ⟨_, rfl, _, _, rfl, rfl, by show (0 : Int) < 1000; decide, _, _, _, rfl, rfl, ho, sz, ?_⟩⟩
          obtain ⟨a1, a2, a3⟩ := app _ (m1 _).1 (m1 _).2
          exact ⟨_, _, _, _, _, rfl, same_mut hs no, a1, a2, a3⟩
      · refine iteF ?_
        refine ⟨_, rfl, _, _, rfl, rfl, .inr ⟨by decide, by decide⟩, _, rfl, _, _, rfl, rfl, .inr ⟨by decide, by decide⟩, _, _, rfl, rfl, _, _, rfl, rfl, .inl ⟨_, rfl, _, _, rfl, rfl, by show (0 : Int) < 2147483647; decide, ?_⟩⟩
        refine ⟨_, rfl, _, rfl, _, _, rfl, rfl, .inl ?_, _, rfl, _, _, rfl, rfl, .inl ⟨by decide, by decide⟩, _, _, rfl, rfl, _, _, rfl, rfl, .inl ⟨_, rfl, _, _, rfl, rfl, by show (0 : Int) < 2147483629; decide, ?_⟩⟩
        · have h := m2 (span * 48271 + (0 + (i : Int)) * 69621 + 11)
          omega
        refine ⟨_, rfl, .inl ⟨rfl, _, SqL.of ho⟩, _, rfl, _, _, rfl, rfl, ⟨by decide, by decide⟩, .inl ⟨_, rfl, _, _, rfl, rfl, by show (0 : Int) < 1000; decide, _, _, _, rfl, rfl, ho, sz, ?_⟩⟩
        obtain ⟨a1, a2, a3⟩ := app _ (m1 _).1 (m1 _).2
        exact ⟨_, _, _, _, _, rfl, same_mut hs no, a1, a2, a3⟩
    · subst hσ
      exact ⟨_, rfl, q _ _ ns hs no ho hl hb⟩
def spLawState (K : PySem.W.Frag) : Sp := fun vs H Q _ => ∃ (l : Addr) (ns : List Int), vs = [.ref l] ∧ SqL K H l (ns.map V.int) ∧ ∀ H' p a, Same H H' → Dw H' p a 0 → Q (.ref p) H'
theorem okLawState (T : Txt K mg fa fd) : FnOk P w K mg base CX0 2 (fa 16) (fd 16) ["script"] (spLawState K) := by
  refine T.F__law_state.ok scLawState (fun vs H Q E h => ?_) (fun cdv A outer s H vs Q E hr h => ?_)
  · obtain ⟨l, ns, rfl, hS, q⟩ := h
    rfl
  · obtain ⟨l, ns, rfl, hS, q⟩ := h
    refine ⟨_, (pss_cons (ps_set (i := 1) scLawState.nd rfl (Or.inl rfl) (pe_lst pa_nil))
      (pss_cons (ps_for PassesOwn.never rfl (pi_range1 (by rfl) T.m_range (pa_cons pe_int pa_nil)) (pg_name (i := 2) scLawState.nd rfl (Or.inl rfl))
      (pss_one (ps_set (i := 1) scLawState.nd rfl (Or.inl rfl) (pe_op op_cat (pv 1) (pe_call (sp := spLawNumbers K) (okLawNumbers T) hr (by rfl) T.G__law_numbers T.F__law_numbers.kp T.B__law_numbers .nil pass0 (pa_cons (pe_op op_add (pe_callB (absQ K) (by rfl) T.m_abs (by decide +kernel) (pa_cons (pe_call (sp := spLawCell K) (okLawCell T) hr (by rfl) T.G__law_cell T.F__law_cell.kp T.B__law_cell .nil pass0 (pa_cons (pv 0) (pa_cons (pv 2) pa_nil))) pa_nil)) (pe_op op_mul pe_int (pv 2))) (pa_cons pe_int pa_nil)))))))
      (pss_one (ps_ret (pe_lst (pa_cons (pv 1) (pa_cons pe_int pa_nil))))))), ?_⟩
    refine ⟨Nat.zero_le _, fun o no => ?_⟩
    refine ⟨3, rfl, by decide, by decide, for_range (lo := 0) (n := 3) (fun i σ H' => ∃ (o : Addr) (x2 : Option V) (ms : List Int), σ = [some (.ref l), some (.ref o), x2] ∧ Same H H' ∧ H' o = some (.lst (ms.map V.int)) ∧ ms.length = 40 * i ∧ ∀ n ∈ ms, 0 ≤ n ∧ n < 1000)
      ⟨o, none, [], rfl, same_upd no, upd_same, rfl, fun n h => nomatch h⟩ (fun i σ H' hi ⟨o, x2, ms, hσ, hs, ho, hl, hb⟩ => ?_) (fun σ H' ⟨o, x2, ms, hσ, hs, ho, hl, hb⟩ => ?_)⟩
    · subst hσ
      refine ⟨_, rfl, _, rfl, _, rfl, l, ns, i, ?_, hs.seq hS, fun v => ⟨_, rfl, _, rfl, _, _, rfl, rfl, .inl ⟨by decide, by decide⟩, _, _, rfl, rfl, _, 40, rfl, by decide, fun H2 u ks s2 nu hu kl kb => ?_⟩⟩
      · exact congrArg (fun t : Int => [V.ref l, V.int t]) (Int.zero_add _)
      refine ⟨_, _, _, _, rfl, rfl, s2 _ _ ho, hu, ?_, fun w nw => ?_⟩
      · rw [List.length_map, List.length_map]
        exact small200 (by omega)
      refine ⟨w, _, ms ++ ks, rfl, (hs.trans s2).trans (same_upd nw), ?_, ?_, fun n hn => ?_⟩
      · rw [upd_same, List.map_append]
      · rw [List.length_append]
        omega
      · rcases List.mem_append.mp hn with hn | hn
        · exact hb n hn
        · exact kb n hn
    · subst hσ
      refine ⟨_, rfl, by show 2 ≤ sizeLine; decide, fun p np => ?_⟩
      refine q _ p o (hs.trans (same_upd np)) ⟨0, ms, Nat.le_refl 0, ne_of_none ho np, upd_same, ?_, hl, hb⟩
      rw [upd_ne (ne_of_none ho np)]
      exact ho
def spLawNext (_ : PySem.W.Frag) : Sp := fun vs H Q _ => ∃ (p a : Addr) (many : Int) (N : Nat), vs = [.ref p, .int many] ∧ Dw H p a N ∧ N < 1000000000 ∧ 0 < many ∧
  ∀ r H', 0 ≤ r → r < many → Dw H' p a (N + 1) → (∀ b, b ≠ p → H' b = H b) → Q (.int r) H'
theorem uLawNext {K : PySem.W.Frag} {H : Hp} {Q : VK} {E : XK} {vs : List V} {p a : Addr} {N : Nat} {many : Int} (e : vs = [.ref p, .int many]) (d : Dw H p a N) (hN : N < 1000000000) (hm : 0 < many) (q : ∀ r H', 0 ≤ r → r < many → Dw H' p a (N + 1) → Kp p H H' → Q (.int r) H') : spLawNext K vs H Q E :=
  ⟨p, a, many, N, e, d, hN, hm, fun r H' h0 h1 d' f => q r H' h0 h1 d' (frm_kp f)⟩
theorem okLawNext (T : Txt K mg fa fd) : FnOk P w K mg base CX0 1 (fa 17) (fd 17) ["state", "many"] (spLawNext K) := by
  refine T.F__law_next.ok scLawNext (fun vs H Q E h => ?_) (fun cdv A outer s H vs Q E hr h => ?_)
  · obtain ⟨p, a, many, N, rfl, ⟨m, ns, hm, hap, hp, ha, hl, hb⟩, hN, hmany, q⟩ := h
    rfl
  · obtain ⟨p, a, many, N, rfl, ⟨m, ns, hm, hap, hp, ha, hl, hb⟩, hN, hmany, q⟩ := h
    refine ⟨_, (pss_cons (ps_asg (pe_op op_add (pe_ix (ixL K) (pv 0) pe_int (fun _ _ => rfl)) pe_int) (pg_sub (pv 0) pe_int set_list))
      (pss_cons (ps_set (i := 2) scLawNext.nd rfl (Or.inl rfl) (pe_op op_add (pe_ix (ixL K) (pe_ix (ixL K) (pv 0) pe_int (fun _ _ => rfl)) (pe_op op_mod (pe_callTy (intQ K) (by rfl) T.m_int (by decide +kernel) (pa_cons (pe_op op_mul (pe_ix (ixL K) (pv 0) pe_int (fun _ _ => rfl)) pe_int) pa_nil)) (pe_callB (lenQ K) (by rfl) T.m_len (by decide +kernel) (pa_cons (pe_ix (ixL K) (pv 0) pe_int (fun _ _ => rfl)) pa_nil))) (fun _ _ => rfl)) (pe_op op_mul (pe_op op_mul pe_int (pe_ix (ixL K) (pv 0) pe_int (fun _ _ => rfl))) (pe_op op_add pe_int (pe_op op_fdiv (pe_ix (ixL K) (pv 0) pe_int (fun _ _ => rfl)) (pe_callB (lenQ K) (by rfl) T.m_len (by decide +kernel) (pa_cons (pe_ix (ixL K) (pv 0) pe_int (fun _ _ => rfl)) pa_nil)))))))
      (pss_one (ps_ret (pe_op op_mod (pe_callTy (intQ K) (by rfl) T.m_int (by decide +kernel) (pa_cons (pv 2) pa_nil)) (pv 1)))))), ?_⟩
    have eS : SqL K H p [.ref a, .int (m : Int)] := SqL.of hp
    refine ⟨_, rfl, _, _, _, _, rfl, rfl, eS, atI_nat (j := 1) rfl, _, _, rfl, rfl, _, rfl, _, _, _, 1, rfl, rfl, hp, rfl, ?_⟩
    have h1p : (upd H p (.lst [.ref a, .int ((m : Int) + 1)])) p = some (.lst [.ref a, .int ((m : Int) + 1)]) := upd_same
    have h1a : (upd H p (.lst [.ref a, .int ((m : Int) + 1)])) a = some (.lst (ns.map V.int)) := by
      rw [upd_ne hap]
      exact ha
    have fr : ∀ b, b ≠ p → (upd H p (.lst [.ref a, .int ((m : Int) + 1)])) b = H b := fun b hb => upd_ne hb
    show tSeq _ _ _ _ (upd H p (.lst [.ref a, .int ((m : Int) + 1)]))
    generalize upd H p (.lst [.ref a, .int ((m : Int) + 1)]) = H1 at h1p h1a fr
    have S1 : SqL K H1 p [.ref a, .int ((m : Int) + 1)] := SqL.of h1p
    have A1 : SqL K H1 a (ns.map V.int) := SqL.of h1a
    have hl2 : ((ns.map V.int).length : Int) = 120 := by
      rw [List.length_map, hl]
      rfl
    obtain ⟨x, hx, ex⟩ := at_int (ns := ns) (r := ((m : Int) + 1) * 7 % 120) (by omega) (by omega)
    refine ⟨_, rfl, _, _, _, _, rfl, rfl, S1, atI_nat (j := 0) rfl, _, rfl, _, _, _, _, rfl, rfl, S1, atI_nat (j := 1) rfl, _, _, rfl, rfl, .inr ⟨by decide, by decide⟩, .inl ⟨_, rfl, _, rfl, _, _, _, _, rfl, rfl, S1, atI_nat (j := 0) rfl, _, _, rfl, .inl A1, ?_⟩⟩
    rw [hl2]
    refine ⟨_, _, rfl, rfl, by show (0 : Int) < 120; decide, _, _, _, _, rfl, rfl, A1, ex, ?_⟩
    refine ⟨_, rfl, _, _, _, _, rfl, rfl, S1, atI_nat (j := 1) rfl, _, _, rfl, rfl, .inl ⟨by decide, by decide⟩, _, rfl, _, _, _, _, rfl, rfl, S1, atI_nat (j := 1) rfl, _, rfl, _, _, _, _, rfl, rfl, S1, atI_nat (j := 0) rfl, _, _, rfl, .inl A1, ?_⟩
    rw [hl2]
    refine ⟨_, _, rfl, rfl, ⟨by decide, by decide⟩, _, _, rfl, rfl, _, _, rfl, rfl, .inl ⟨by omega, by omega⟩, _, _, rfl, rfl, ?_⟩
    refine ⟨_, rfl, .inl ⟨_, rfl, _, rfl, _, _, rfl, rfl, hmany, ?_⟩⟩
    exact q _ _ (Int.emod_nonneg _ (by omega)) (Int.emod_lt_of_pos _ hmany) ⟨m + 1, ns, by omega, hap, h1p, h1a, hl, hb⟩ fr
def spLawWide (_ : PySem.W.Frag) : Sp := fun vs H Q _ => ∃ (p a : Addr) (many : Int) (N : Nat), vs = [.ref p, .int many] ∧ Dw H p a N ∧ N < 900000000 ∧ 0 < many ∧
  ∀ r H', 0 ≤ r → r < many → Dw H' p a (N + 6) → (∀ b, b ≠ p → H' b = H b) → Q (.int r) H'
theorem uLawWide {K : PySem.W.Frag} {H : Hp} {Q : VK} {E : XK} {vs : List V} {p a : Addr} {N : Nat} {many : Int} (e : vs = [.ref p, .int many]) (d : Dw H p a N) (hN : N < 900000000) (hm : 0 < many) (q : ∀ r H', 0 ≤ r → r < many → Dw H' p a (N + 6) → Kp p H H' → Q (.int r) H') : spLawWide K vs H Q E :=
  ⟨p, a, many, N, e, d, hN, hm, fun r H' h0 h1 d' f => q r H' h0 h1 d' (frm_kp f)⟩
theorem okLawWide (T : Txt K mg fa fd) : FnOk P w K mg base CX0 2 (fa 18) (fd 18) ["state", "many"] (spLawWide K) := by
  refine T.F__law_wide.ok scLawWide (fun vs H Q E h => ?_) (fun cdv A outer s H vs Q E hr h => ?_)
  · obtain ⟨p, a, many, N, rfl, hD, hN, hmany, q⟩ := h
    rfl
  · obtain ⟨p, a, many, N, rfl, hD, hN, hmany, q⟩ := h
    refine ⟨_, (pss_cons (ps_set (i := 2) scLawWide.nd rfl (Or.inl rfl) pe_int)
      (pss_cons (ps_for PassesOwn.never rfl (pi_range1 (by rfl) T.m_range (pa_cons pe_int pa_nil)) (pg_name (i := 3) scLawWide.nd rfl (Or.inl rfl))
      (pss_one (ps_set (i := 2) scLawWide.nd rfl (Or.inl rfl) (pe_op op_add (pe_op op_mul (pv 2) pe_int) (pe_call (sp := spLawNext K) (okLawNext T) hr (by rfl) T.G__law_next T.F__law_next.kp T.B__law_next .nil pass0 (pa_cons (pv 0) (pa_cons pe_int pa_nil)))))))
      (pss_one (ps_ret (pe_op op_mod (pv 2) (pv 1)))))), ?_⟩
    refine ⟨6, rfl, by decide, by decide, for_range (lo := 0) (n := 6) (fun i σ H' => ∃ (t : Int) (x3 : Option V), σ = [some (.ref p), some (.int many), some (.int t), x3] ∧ Dw H' p a (N + i) ∧ ∀ b, b ≠ p → H' b = H b)
      ⟨0, none, rfl, hD, fun _ _ => rfl⟩ (fun i σ H' hi ⟨t, x3, hσ, hd, fr⟩ => ?_) (fun σ H' ⟨t, x3, hσ, hd, fr⟩ => ?_)⟩
    · subst hσ
      refine ⟨_, rfl, _, _, rfl, rfl, .inr ⟨by decide, by decide⟩, _, rfl, p, a, 1000, N + i, rfl, hd, by omega, by decide, fun r H2 h0 h1 hd2 fr2 => ?_⟩
      refine ⟨_, _, rfl, rfl, _, _, rfl, ?_, fun b hb => (fr2 b hb).trans (fr b hb)⟩
      exact hd2
    · subst hσ
      refine ⟨_, rfl, _, rfl, _, _, rfl, rfl, hmany, ?_⟩
      exact q _ _ (Int.emod_nonneg _ (by omega)) (Int.emod_lt_of_pos _ hmany) hd fr
def spLawRoot (_ : PySem.W.Frag) : Sp := fun vs H Q _ => ∃ n : Int, vs = [.int n] ∧ 0 ≤ n ∧ Bd 1900 n ∧ Q (.int (rootI n)) H
theorem uLawRootB {K : PySem.W.Frag} {H : Hp} {Q : VK} {E : XK} {vs : List V} {n : Int} (e : vs = [.int n]) (h0 : 0 ≤ n) (h1 : Bd 1900 n) (kk : Q (.int (rootI n)) H) : spLawRoot K vs H Q E := ⟨n, e, h0, h1, kk⟩
theorem okLawRoot (T : Txt K mg fa fd) : FnOk P w K mg base CX0 1 (fa 19) (fd 19) ["n"] (spLawRoot K) := by
  refine T.F__law_root.ok scLawRoot (fun vs H Q E h => ?_) (fun cdv A outer s H vs Q E hr h => ?_)
  · obtain ⟨n, rfl, h0, h1, q⟩ := h
    rfl
  · obtain ⟨n, rfl, h0, h1, q⟩ := h
    refine ⟨_, (pss_cons (ps_set (i := 1) scLawRoot.nd rfl (Or.inl rfl) pe_int)
      (pss_cons (ps_set (i := 2) scLawRoot.nd rfl (Or.inl rfl) (pe_op op_add (pv 0) pe_int))
      (pss_cons (ps_for PassesOwn.never rfl (pi_range1 (by rfl) T.m_range (pa_cons pe_int pa_nil)) (pg_name (i := 3) scLawRoot.nd rfl (Or.inl rfl))
      (pss_cons (ps_if (pt_cmp (pc_le (pe_op op_sub (pv 2) (pv 1)) pe_int))
        (pss_one (ps_ret (pv 1)))
        pss_nil)
        (pss_cons (ps_set (i := 4) scLawRoot.nd rfl (Or.inl rfl) (pe_op op_fdiv (pe_op op_add (pv 1) (pv 2)) pe_int))
        (pss_one (ps_if (pt_cmp (pc_le (pe_op op_mulW (pv 4) (pv 4)) (pv 0)))
        (pss_one (ps_set (i := 1) scLawRoot.nd rfl (Or.inl rfl) (pv 4)))
        (pss_one (ps_set (i := 2) scLawRoot.nd rfl (Or.inl rfl) (pv 4))))))))
      (pss_one (ps_ret (pv 1)))))), ?_⟩
    have b19 : ∀ x : Int, 0 ≤ x → x ≤ n + 1 → Bd 1901 x := fun x x0 x1 => by
      have h : n.natAbs < 2 ^ 1900 := h1
      have e : (2 : Nat) ^ 1901 = 2 ^ 1900 * 2 := Nat.pow_succ _ _
      show x.natAbs < 2 ^ 1901
      rw [e]
      generalize (2 : Nat) ^ 1900 = B at *
      omega
    clean_wf
    refine R.forN (lo := 0) (n := Int.toNat 2000) (fun i σ H' => ∃ (low high : Int) (x3 x4 : Option V), σ = [some (.int n), some (.int low), some (.int high), x3, x4] ∧ H' = H ∧ 0 ≤ low ∧ low < high ∧ high ≤ n + 1 ∧ low * low ≤ n ∧ n < high * high ∧ (high - low - 1) * 2 ^ i ≤ n)
      ⟨0, n + 1, _, _, rfl, rfl, by omega, by omega, by omega, by omega, ?_, by simp⟩ (fun i σ H' hi hPv => ?_) (fun σ H' hPv => ?_)
    · have e : (n + 1) * (n + 1) = n * n + 2 * n + 1 := by grind
      have := Int.mul_nonneg h0 h0
      omega
    · obtain ⟨low, high, x3, x4, rfl, rfl, z0, z1, z2, z3, z4, z5⟩ := hPv
      have bl := b19 low z0 (by omega)
      have bh := b19 high (by omega) z2
      clean_wf
      refine way2 (fun z => ?_) (fun z => ?_)
      · have e : high = low + 1 := by omega
        rw [e] at z4
        have hr := rootI_uniq h0 z0 z3 z4
        rw [← hr] at q
        clean_wf
      · obtain ⟨y1, y2, y3, y4⟩ := half_step (i := i) (by omega) z5
        clean_wf
        generalize (low + high) / 2 = mid at *
        refine way2 (fun w => ?_) (fun w => ?_)
        · skip
          clean_wf
          exact ⟨mid, high, _, _, rfl, rfl, by omega, by omega, by omega, w, z4, y2⟩
        · skip
          clean_wf
          exact ⟨low, mid, _, _, rfl, rfl, by omega, by omega, by omega, z3, by omega, y1⟩
    · obtain ⟨low, high, x3, x4, rfl, rfl, z0, z1, z2, z3, z4, z5⟩ := hPv
      replace z5 : (high - low - 1) * 2 ^ 2000 ≤ n := z5
      have e : high = low + 1 := by
        by_cases y : high = low + 1
        · exact y
        · exfalso
          have h : n.natAbs < 2 ^ 1900 := h1
          have p : (1 : Int) * 2 ^ 2000 ≤ (high - low - 1) * 2 ^ 2000 := Int.mul_le_mul_of_nonneg_right (by omega) (Int.le_of_lt (Int.pow_pos (by decide)))
          have e1 : ((2 ^ 2000 : Nat) : Int) = (2 : Int) ^ 2000 := Int.natCast_pow 2 2000
          have e2 : (2 : Nat) ^ 1900 ≤ 2 ^ 2000 := Nat.pow_le_pow_right (by decide) (by decide)
          rw [Int.one_mul] at p
          generalize (high - low - 1) * 2 ^ 2000 = W at *
          generalize (2 : Int) ^ 2000 = V at *
          generalize (2 : Nat) ^ 2000 = U at *
          generalize (2 : Nat) ^ 1900 = T at *
          omega
      rw [e] at z4
      have hr := rootI_uniq h0 z0 z3 z4
      rw [← hr] at q
      clean_wf
def spLawMeasure (_ : PySem.W.Frag) : Sp := fun vs H Q _ => ∃ a b : Int, vs = [.int a, .int b] ∧ Bd 2000 a ∧ Bd 2000 b ∧ Q (.int (gI a b)) H
theorem uLawMeasure {K : PySem.W.Frag} {H : Hp} {Q : VK} {E : XK} {vs : List V} {a b : Int} {n m : Nat} (e : vs = [.int a, .int b]) (h1 : Bd n a) (h2 : Bd m b) (l1 : Nat.ble n 2000 = true) (l2 : Nat.ble m 2000 = true) (kk : Q (.int (gI a b)) H) : spLawMeasure K vs H Q E := ⟨a, b, e, bdm h1 l1, bdm h2 l2, kk⟩
theorem okLawMeasure (T : Txt K mg fa fd) : FnOk P w K mg base CX0 1 (fa 20) (fd 20) ["a", "b"] (spLawMeasure K) := by
  refine T.F__law_measure.ok scLawMeasure (fun vs H Q E h => ?_) (fun cdv A outer s H vs Q E hr h => ?_)
  · obtain ⟨a, b, rfl, ha, hb, q⟩ := h
    rfl
  · obtain ⟨a, b, rfl, ha, hb, q⟩ := h
    refine ⟨_, (pss_cons (ps_set (i := 0) scLawMeasure.nd rfl (Or.inl rfl) (pe_callB (absQ K) (by rfl) T.m_abs (by decide +kernel) (pa_cons (pv 0) pa_nil)))
      (pss_cons (ps_set (i := 1) scLawMeasure.nd rfl (Or.inl rfl) (pe_callB (absQ K) (by rfl) T.m_abs (by decide +kernel) (pa_cons (pv 1) pa_nil)))
      (pss_cons (ps_for PassesOwn.never rfl (pi_range1 (by rfl) T.m_range (pa_cons pe_int pa_nil)) (pg_name (i := 2) scLawMeasure.nd rfl (Or.inl rfl))
      (pss_cons (ps_if (pt_cmp (pc_eqI (pv 1) pe_int))
        (pss_one (ps_ret (pv 0)))
        pss_nil)
        (pss_one (ps_par (i := 0) (j := 1) (by rfl) scLawMeasure.nd rfl rfl (by decide) rfl rfl (pa_cons (pv 1) (pa_cons (pe_op op_mod (pv 0) (pv 1)) pa_nil)) (by rfl)))))
      (pss_one (ps_ret (pv 0)))))), ?_⟩
    have hP : a.natAbs * b.natAbs * 2 < 2 ^ 4900 := by
      have h : a.natAbs * b.natAbs < 2 ^ (2000 + 2000) := by
        rw [Nat.pow_add]
        exact Nat.mul_lt_mul'' ha hb
      have e : (2 : Nat) ^ 4900 = 2 ^ (2000 + 2000) * 2 ^ 900 := Nat.pow_add 2 (2000 + 2000) 900
      rw [e]
      exact Nat.mul_lt_mul'' h (by decide)
    clean_wf
    refine R.forN (lo := 0) (n := Int.toNat 5000) (fun i σ H' => ∃ (x y : Nat) (x2 : Option V), σ = [some (.int (x : Int)), some (.int (y : Int)), x2] ∧ H' = H ∧ ((Nat.gcd x y : Nat) : Int) = gI a b ∧ ((i = 0 ∧ x * y * 2 < 2 ^ 4900) ∨ (y ≤ x ∧ x * y * 2 ^ i < 2 ^ 4900)))
      ⟨a.natAbs, b.natAbs, _, rfl, rfl, rfl, .inl ⟨rfl, hP⟩⟩ (fun i σ H' hi ⟨x, y, x2, e1, e2, hg, hz⟩ => ?_) (fun σ H' ⟨x, y, x2, e1, e2, hg, hz⟩ => ?_)
    · subst e1 e2
      clean_wf
      refine way2 (fun h => ?_) (fun h => ?_)
      · have hy : y = 0 := by omega
        rw [hy, Nat.gcd_zero_right] at hg
        rw [← hg] at q
        clean_wf
      · have hy : y ≠ 0 := by omega
        obtain ⟨s1, s2⟩ := em_step hy hz
        clean_wf
        refine ⟨y, x % y, _, rfl, rfl, ?_, .inr ⟨s1, s2⟩⟩
        rw [← hg, Nat.gcd_comm y, ← Nat.gcd_rec, Nat.gcd_comm]
    · subst e1 e2
      have e : ((x : Nat) : Int) = gI a b := by
        have h := em_end5 (G := Nat.gcd x y) rfl hz (Nat.pow_le_pow_right (by decide) (by decide))
        rw [← hg, ← h]
      rw [← e] at q
      clean_wf
def spLawMul (K : PySem.W.Frag) : Sp := fun vs H Q _ => ∃ (am an : Addr) (p q r s p2 q2 r2 s2 : Int) (N : Nat), vs = [.ref am, .ref an] ∧ SqT K H am [.int p, .int q, .int r, .int s] ∧ SqT K H an [.int p2, .int q2, .int r2, .int s2] ∧ Bd N p ∧ Bd N q ∧ Bd N r ∧ Bd N s ∧ Bd N p2 ∧ Bd N q2 ∧ Bd N r2 ∧ Bd N s2 ∧ N ≤ 400000 ∧ (R.Nw H [.int (p * p2 + q * r2), .int (p * q2 + q * s2), .int (r * p2 + s * r2), .int (r * q2 + s * s2)] Q)
theorem uLawMul {K : PySem.W.Frag} {H : Hp} {Q : VK} {E : XK} {vs : List V} {am an : Addr} {p q r s p2 q2 r2 s2 : Int} {n0 n1 n2 n3 n4 n5 n6 n7 : Nat} (hev : vs = [.ref am, .ref an]) (s0 : SqT K H am [.int p, .int q, .int r, .int s]) (s1 : SqT K H an [.int p2, .int q2, .int r2, .int s2]) (b0 : Bd n0 p) (b1 : Bd n1 q) (b2 : Bd n2 r) (b3 : Bd n3 s) (b4 : Bd n4 p2) (b5 : Bd n5 q2) (b6 : Bd n6 r2) (b7 : Bd n7 s2) (hll : (n0 + n1 + n2 + n3 + n4 + n5 + n6 + n7 ≤ 400000) = True) (kk : R.Nw H [.int (p * p2 + q * r2), .int (p * q2 + q * s2), .int (r * p2 + s * r2), .int (r * q2 + s * s2)] Q) : spLawMul K vs H Q E :=
  have hll := of_eq_true hll
  ⟨am, an, p, q, r, s, p2, q2, r2, s2, n0 + n1 + n2 + n3 + n4 + n5 + n6 + n7, hev, s0, s1, b0.mono (by omega), b1.mono (by omega), b2.mono (by omega), b3.mono (by omega), b4.mono (by omega), b5.mono (by omega), b6.mono (by omega), b7.mono (by omega), hll, kk⟩
theorem okLawMul (T : Txt K mg fa fd) : FnOk P w K mg base CX0 1 (fa 21) (fd 21) ["m", "n"] (spLawMul K) := by
  refine T.F__law_mul.ok scLawMul (fun vs H Q E h => ?_) (fun cdv A outer s H vs Q E hr h => ?_)
  · obtain ⟨am, an, p, q, r, s, p2, q2, r2, s2, N, rfl, h_am, h_an, b_p, b_q, b_r, b_s, b_p2, b_q2, b_r2, b_s2, hN, kk⟩ := h
    rfl
  · obtain ⟨am, an, p, q, r, s, p2, q2, r2, s2, N, rfl, h_am, h_an, b_p, b_q, b_r, b_s, b_p2, b_q2, b_r2, b_s2, hN, kk⟩ := h
    refine ⟨_, (pss_cons (ps_set (i := 2) scLawMul.nd rfl (Or.inl rfl) (pe_lst (pa_cons (pe_op op_add (pe_op op_mulW (pe_ix (ixT K) (pv 0) pe_int (fun _ _ => rfl)) (pe_ix (ixT K) (pv 1) pe_int (fun _ _ => rfl))) (pe_op op_mulW (pe_ix (ixT K) (pv 0) pe_int (fun _ _ => rfl)) (pe_ix (ixT K) (pv 1) pe_int (fun _ _ => rfl)))) (pa_cons (pe_op op_add (pe_op op_mulW (pe_ix (ixT K) (pv 0) pe_int (fun _ _ => rfl)) (pe_ix (ixT K) (pv 1) pe_int (fun _ _ => rfl))) (pe_op op_mulW (pe_ix (ixT K) (pv 0) pe_int (fun _ _ => rfl)) (pe_ix (ixT K) (pv 1) pe_int (fun _ _ => rfl)))) pa_nil))))
      (pss_one (ps_ret (pe_callTy (tupQ K) (by rfl) T.m_tuple (by decide +kernel) (pa_cons (pe_op op_cat (pv 2) (pe_lst (pa_cons (pe_op op_add (pe_op op_mulW (pe_ix (ixT K) (pv 0) pe_int (fun _ _ => rfl)) (pe_ix (ixT K) (pv 1) pe_int (fun _ _ => rfl))) (pe_op op_mulW (pe_ix (ixT K) (pv 0) pe_int (fun _ _ => rfl)) (pe_ix (ixT K) (pv 1) pe_int (fun _ _ => rfl)))) (pa_cons (pe_op op_add (pe_op op_mulW (pe_ix (ixT K) (pv 0) pe_int (fun _ _ => rfl)) (pe_ix (ixT K) (pv 1) pe_int (fun _ _ => rfl))) (pe_op op_mulW (pe_ix (ixT K) (pv 0) pe_int (fun _ _ => rfl)) (pe_ix (ixT K) (pv 1) pe_int (fun _ _ => rfl)))) pa_nil)))) pa_nil))))), ?_⟩
    clean_wf
    all_goals first | omega | exact kk | (refine kk _ _ ?_ (by assumption); (repeat' (first | with_reducible exact Same.refl _ | with_reducible assumption | ((with_reducible apply sameB); with_reducible assumption))))
def spLawWorth (K : PySem.W.Frag) : Sp := fun vs H Q _ => ∃ (aform : Addr) (a b c x y : Int) (N : Nat), vs = [.ref aform, .int x, .int y] ∧ SqT K H aform [.int a, .int b, .int c] ∧ Bd N a ∧ Bd N b ∧ Bd N c ∧ Bd N x ∧ Bd N y ∧ N ≤ 300000 ∧ (Q (.int (a * x * x + b * x * y + c * y * y)) H)
theorem uLawWorth {K : PySem.W.Frag} {H : Hp} {Q : VK} {E : XK} {vs : List V} {aform : Addr} {a b c x y : Int} {n0 n1 n2 n3 n4 : Nat} (hev : vs = [.ref aform, .int x, .int y]) (s0 : SqT K H aform [.int a, .int b, .int c]) (b0 : Bd n0 a) (b1 : Bd n1 b) (b2 : Bd n2 c) (b3 : Bd n3 x) (b4 : Bd n4 y) (hll : (n0 + n1 + n2 + n3 + n4 ≤ 300000) = True) (kk : Q (.int (a * x * x + b * x * y + c * y * y)) H) : spLawWorth K vs H Q E :=
  have hll := of_eq_true hll
  ⟨aform, a, b, c, x, y, n0 + n1 + n2 + n3 + n4, hev, s0, b0.mono (by omega), b1.mono (by omega), b2.mono (by omega), b3.mono (by omega), b4.mono (by omega), hll, kk⟩
theorem okLawWorth (T : Txt K mg fa fd) : FnOk P w K mg base CX0 1 (fa 22) (fd 22) ["form", "x", "y"] (spLawWorth K) := by
  refine T.F__law_worth.ok scLawWorth (fun vs H Q E h => ?_) (fun cdv A outer s H vs Q E hr h => ?_)
  · obtain ⟨aform, a, b, c, x, y, N, rfl, h_aform, b_a, b_b, b_c, b_x, b_y, hN, kk⟩ := h
    rfl
  · obtain ⟨aform, a, b, c, x, y, N, rfl, h_aform, b_a, b_b, b_c, b_x, b_y, hN, kk⟩ := h
    refine ⟨_, (pss_one (ps_ret (pe_op op_add (pe_op op_add (pe_op op_mulW (pe_op op_mulW (pe_ix (ixT K) (pv 0) pe_int (fun _ _ => rfl)) (pv 1)) (pv 1)) (pe_op op_mulW (pe_op op_mulW (pe_ix (ixT K) (pv 0) pe_int (fun _ _ => rfl)) (pv 1)) (pv 2))) (pe_op op_mulW (pe_op op_mulW (pe_ix (ixT K) (pv 0) pe_int (fun _ _ => rfl)) (pv 2)) (pv 2))))), ?_⟩
    clean_wf
    all_goals first | omega | exact kk | (refine kk _ _ ?_ (by assumption); (repeat' (first | with_reducible exact Same.refl _ | with_reducible assumption | ((with_reducible apply sameB); with_reducible assumption))))
def spLawAct (K : PySem.W.Frag) : Sp := fun vs H Q _ => ∃ (aform am : Addr) (a b c p q r s : Int) (N : Nat), vs = [.ref aform, .ref am] ∧ SqT K H aform [.int a, .int b, .int c] ∧ SqT K H am [.int p, .int q, .int r, .int s] ∧ Bd N a ∧ Bd N b ∧ Bd N c ∧ Bd N p ∧ Bd N q ∧ Bd N r ∧ Bd N s ∧ N ≤ 59000 ∧ (R.Nw H [.int (a * p * p + b * p * r + c * r * r), .int (2 * a * p * q + b * (p * s + q * r) + 2 * c * r * s), .int (a * q * q + b * q * s + c * s * s)] Q)
theorem uLawAct {K : PySem.W.Frag} {H : Hp} {Q : VK} {E : XK} {vs : List V} {aform am : Addr} {a b c p q r s : Int} {n0 n1 n2 n3 n4 n5 n6 : Nat} (hev : vs = [.ref aform, .ref am]) (s0 : SqT K H aform [.int a, .int b, .int c]) (s1 : SqT K H am [.int p, .int q, .int r, .int s]) (b0 : Bd n0 a) (b1 : Bd n1 b) (b2 : Bd n2 c) (b3 : Bd n3 p) (b4 : Bd n4 q) (b5 : Bd n5 r) (b6 : Bd n6 s) (hll : (n0 + n1 + n2 + n3 + n4 + n5 + n6 ≤ 59000) = True) (kk : R.Nw H [.int (a * p * p + b * p * r + c * r * r), .int (2 * a * p * q + b * (p * s + q * r) + 2 * c * r * s), .int (a * q * q + b * q * s + c * s * s)] Q) : spLawAct K vs H Q E :=
  have hll := of_eq_true hll
  ⟨aform, am, a, b, c, p, q, r, s, n0 + n1 + n2 + n3 + n4 + n5 + n6, hev, s0, s1, b0.mono (by omega), b1.mono (by omega), b2.mono (by omega), b3.mono (by omega), b4.mono (by omega), b5.mono (by omega), b6.mono (by omega), hll, kk⟩
theorem okLawAct (T : Txt K mg fa fd) : FnOk P w K mg base CX0 2 (fa 23) (fd 23) ["form", "m"] (spLawAct K) := by
  refine T.F__law_act.ok scLawAct (fun vs H Q E h => ?_) (fun cdv A outer s H vs Q E hr h => ?_)
  · obtain ⟨aform, am, a, b, c, p, q, r, s, N, rfl, h_aform, h_am, b_a, b_b, b_c, b_p, b_q, b_r, b_s, hN, kk⟩ := h
    rfl
  · obtain ⟨aform, am, a, b, c, p, q, r, s, N, rfl, h_aform, h_am, b_a, b_b, b_c, b_p, b_q, b_r, b_s, hN, kk⟩ := h
    refine ⟨_, (pss_cons (ps_set (i := 2) scLawAct.nd rfl (Or.inl rfl) (pe_call (sp := spLawWorth K) (okLawWorth T) hr (by rfl) T.G__law_worth T.F__law_worth.kp T.B__law_worth .nil pass0 (pa_cons (pv 0) (pa_cons (pe_ix (ixT K) (pv 1) pe_int (fun _ _ => rfl)) (pa_cons (pe_ix (ixT K) (pv 1) pe_int (fun _ _ => rfl)) pa_nil)))))
      (pss_cons (ps_set (i := 3) scLawAct.nd rfl (Or.inl rfl) (pe_call (sp := spLawWorth K) (okLawWorth T) hr (by rfl) T.G__law_worth T.F__law_worth.kp T.B__law_worth .nil pass0 (pa_cons (pv 0) (pa_cons (pe_ix (ixT K) (pv 1) pe_int (fun _ _ => rfl)) (pa_cons (pe_ix (ixT K) (pv 1) pe_int (fun _ _ => rfl)) pa_nil)))))
      (pss_one (ps_ret (pe_tup (pa_cons (pv 2) (pa_cons (pe_op op_sub (pe_op op_sub (pe_call (sp := spLawWorth K) (okLawWorth T) hr (by rfl) T.G__law_worth T.F__law_worth.kp T.B__law_worth .nil pass0 (pa_cons (pv 0) (pa_cons (pe_op op_add (pe_ix (ixT K) (pv 1) pe_int (fun _ _ => rfl)) (pe_ix (ixT K) (pv 1) pe_int (fun _ _ => rfl))) (pa_cons (pe_op op_add (pe_ix (ixT K) (pv 1) pe_int (fun _ _ => rfl)) (pe_ix (ixT K) (pv 1) pe_int (fun _ _ => rfl))) pa_nil)))) (pv 2)) (pv 3)) (pa_cons (pv 3) pa_nil)))))))), ?_⟩
    rw [← act_mid] at kk
    clean_wf
    all_goals first | omega | exact kk | (refine kk _ _ ?_ (by assumption); (repeat' (first | with_reducible exact Same.refl _ | with_reducible assumption | ((with_reducible apply sameB); with_reducible assumption))))
def Lc4 (i : Nat) (m1 m2 m3 m4 : Int) : Prop := m1 * m4 - m2 * m3 = 1 ∧ m1.natAbs ≤ 3 ^ i ∧ m2.natAbs ≤ 3 ^ i ∧ m3.natAbs ≤ 3 ^ i ∧ m4.natAbs ≤ 3 ^ i
def spLawChange (K : PySem.W.Frag) : Sp := fun vs H Q _ => ∃ (p a : Addr) (N : Nat) (many : Int), vs = [.ref p, .int many] ∧ Dw H p a N ∧ N < 100000 ∧ 0 ≤ many ∧ many ≤ 10 ∧
  ∀ H' t m1 m2 m3 m4, Dw H' p a (N + 31) → Kp p H H' → SqT K H' t [.int m1, .int m2, .int m3, .int m4] → Lc4 many.toNat m1 m2 m3 m4 → Q (.ref t) H'
theorem uLawChange {K : PySem.W.Frag} {H : Hp} {Q : VK} {E : XK} {vs : List V} {p a : Addr} {N : Nat} {many : Int} (e : vs = [.ref p, .int many]) (d : Dw H p a N) (hN : N < 100000) (h0 : 0 ≤ many) (h1 : many ≤ 10)
    (kk : ∀ H' t m1 m2 m3 m4, Dw H' p a (N + 31) → Kp p H H' → SqT K H' t [.int m1, .int m2, .int m3, .int m4] → Lc4 many.toNat m1 m2 m3 m4 → Q (.ref t) H') : spLawChange K vs H Q E := ⟨p, a, N, many, e, d, hN, h0, h1, kk⟩
theorem Lc4.mono {i j : Nat} {m1 m2 m3 m4 : Int} (h : Lc4 i m1 m2 m3 m4) (l : i ≤ j) : Lc4 j m1 m2 m3 m4 := by
  have e : 3 ^ i ≤ 3 ^ j := Nat.pow_le_pow_right (by decide) l
  obtain ⟨h1, h2, h3, h4, h5⟩ := h
  exact ⟨h1, Nat.le_trans h2 e, Nat.le_trans h3 e, Nat.le_trans h4 e, Nat.le_trans h5 e⟩
theorem Lc4.bd {i : Nat} {m1 m2 m3 m4 : Int} (h : Lc4 i m1 m2 m3 m4) (l : i ≤ 10) : Bd 16 m1 ∧ Bd 16 m2 ∧ Bd 16 m3 ∧ Bd 16 m4 := by
  obtain ⟨h1, h2, h3, h4, h5⟩ := h.mono l
  exact ⟨Bd.of h2 (by decide), Bd.of h3 (by decide), Bd.of h4 (by decide), Bd.of h5 (by decide)⟩
theorem two3 {i : Nat} {m x t : Int} (h1 : m.natAbs ≤ 3 ^ i) (h2 : x.natAbs ≤ 3 ^ i) (t1 : -2 ≤ t) (t2 : t ≤ 2) : (m * t + x).natAbs ≤ 3 ^ (i + 1) := by
  have e : (m * t).natAbs ≤ 3 ^ i * 2 := by
    rw [Int.natAbs_mul]
    exact Nat.mul_le_mul h1 (by omega)
  rw [Nat.pow_succ]
  omega
theorem Lc4.s1 {i : Nat} {m1 m2 m3 m4 t : Int} (h : Lc4 i m1 m2 m3 m4) (t1 : -2 ≤ t) (t2 : t ≤ 2) : Lc4 (i + 1) (m1 * 1 + m2 * 0) (m1 * t + m2 * 1) (m3 * 1 + m4 * 0) (m3 * t + m4 * 1) := by
  have k := h.mono (Nat.le_succ i)
  obtain ⟨h1, h2, h3, h4, h5⟩ := h
  obtain ⟨k1, k2, k3, k4, k5⟩ := k
  rw [Int.mul_one, Int.mul_one, Int.mul_one, Int.mul_one, Int.mul_zero, Int.mul_zero, Int.add_zero, Int.add_zero]
  refine ⟨?_, k2, two3 h2 h3 t1 t2, k4, two3 h4 h5 t1 t2⟩
  grind
theorem Lc4.s2 {i : Nat} {m1 m2 m3 m4 t : Int} (h : Lc4 i m1 m2 m3 m4) (t1 : -2 ≤ t) (t2 : t ≤ 2) : Lc4 (i + 1) (m1 * 1 + m2 * t) (m1 * 0 + m2 * 1) (m3 * 1 + m4 * t) (m3 * 0 + m4 * 1) := by
  have k := h.mono (Nat.le_succ i)
  obtain ⟨h1, h2, h3, h4, h5⟩ := h
  obtain ⟨k1, k2, k3, k4, k5⟩ := k
  rw [Int.mul_one, Int.mul_one, Int.mul_one, Int.mul_one, Int.mul_zero, Int.mul_zero, Int.zero_add, Int.zero_add, Int.add_comm m1, Int.add_comm m3]
  refine ⟨?_, two3 h3 h2 t1 t2, k3, two3 h5 h4 t1 t2, k5⟩
  grind
theorem Lc4.s3 {i : Nat} {m1 m2 m3 m4 : Int} (h : Lc4 i m1 m2 m3 m4) : Lc4 (i + 1) (m1 * 0 + m2 * 1) (m1 * (-1) + m2 * 0) (m3 * 0 + m4 * 1) (m3 * (-1) + m4 * 0) := by
  have k := h.mono (Nat.le_succ i)
  obtain ⟨h1, h2, h3, h4, h5⟩ := h
  obtain ⟨k1, k2, k3, k4, k5⟩ := k
  refine ⟨by grind, by omega, by omega, by omega, by omega⟩
theorem okLawChange (T : Txt K mg fa fd) : FnOk P w K mg base CX0 2 (fa 24) (fd 24) ["state", "many"] (spLawChange K) := by
  refine T.F__law_change.ok scLawChange (fun vs H Q E h => ?_) (fun cdv A outer s H vs Q E hr h => ?_)
  · obtain ⟨p, a, N, many, rfl, d, hN, h0, h10, kk⟩ := h
    rfl
  · obtain ⟨p, a, N, many, rfl, d, hN, h0, h10, kk⟩ := h
    refine ⟨_, (pss_cons (ps_set (i := 2) scLawChange.nd rfl (Or.inl rfl) (pe_tup (pa_cons pe_int (pa_cons pe_int (pa_cons pe_int (pa_cons pe_int pa_nil))))))
      (pss_cons (ps_for PassesOwn.never rfl (pi_range1 (by rfl) T.m_range (pa_cons (pe_call (sp := spLawNext K) (okLawNext T) hr (by rfl) T.G__law_next T.F__law_next.kp T.B__law_next .nil pass0 (pa_cons (pv 0) (pa_cons (pe_op op_add (pv 1) pe_int) pa_nil))) pa_nil)) (pg_name (i := 3) scLawChange.nd rfl (Or.inl rfl))
      (pss_cons (ps_set (i := 4) scLawChange.nd rfl (Or.inl rfl) (pe_op op_sub (pe_call (sp := spLawNext K) (okLawNext T) hr (by rfl) T.G__law_next T.F__law_next.kp T.B__law_next .nil pass0 (pa_cons (pv 0) (pa_cons pe_int pa_nil))) pe_int))
        (pss_one (ps_set (i := 2) scLawChange.nd rfl (Or.inl rfl) (pe_call (sp := spLawMul K) (okLawMul T) hr (by rfl) T.G__law_mul T.F__law_mul.kp T.B__law_mul .nil pass0 (pa_cons (pv 2) (pa_cons (pe_ix (ixL K) (pe_lst (pa_cons (pe_tup (pa_cons pe_int (pa_cons (pv 4) (pa_cons pe_int (pa_cons pe_int pa_nil))))) (pa_cons (pe_tup (pa_cons pe_int (pa_cons pe_int (pa_cons (pv 4) (pa_cons pe_int pa_nil))))) (pa_cons (pe_tup (pa_cons pe_int (pa_cons (pe_un un_neg pe_int) (pa_cons pe_int (pa_cons pe_int pa_nil))))) pa_nil)))) (pe_call (sp := spLawNext K) (okLawNext T) hr (by rfl) T.G__law_next T.F__law_next.kp T.B__law_next .nil pass0 (pa_cons (pv 0) (pa_cons pe_int pa_nil))) (fun _ _ => rfl)) pa_nil)))))))
      (pss_one (ps_ret (pv 2))))), ?_⟩
    clean_wf
    intro r1 H1 r1a r1b d1 k1
    clean_wf
    refine R.forN (lo := 0) (n := r1.toNat) (fun i σ H' => ∃ (b : Addr) (m1 m2 m3 m4 : Int) (x3 x4 : Option V), σ = [some (.ref p), some (.int many), some (.ref b), x3, x4] ∧ Dw H' p a (N + 1 + 2 * i) ∧ Kp p H1 H' ∧ SqT K H' b [.int m1, .int m2, .int m3, .int m4] ∧ Lc4 i m1 m2 m3 m4)
      ?_ (fun i σ H2 hi hPv => ?_) (fun σ H2 hPv => ?_)
    · exact ⟨_, 1, 0, 0, 1, _, _, rfl, d1, Kp.refl, by clean_wf, by decide, by decide, by decide, by decide, by decide⟩
    · obtain ⟨b, m1, m2, m3, m4, x3, x4, rfl, d2, k2, s2, l2⟩ := hPv
      have bd := l2.bd (by omega)
      obtain ⟨b1, b2, b3, b4⟩ := bd
      clean_wf
      intro r2 H3 r2a r2b d3 k3
      clean_wf
      intro r3 H4 r3a r3b d4 k4
      have key : ∀ {σ : L2.St} {t1 t2 t3 t4 : Int} {H5 : Hp} {c : Addr}, σ = [some (.ref p), some (.int many), some (.ref c), some (.int (0 + ↑i)), some (.int (r2 - 2))] → Dw H5 p a (N + 1 + 2 * i + 1 + 1) → Kp p H4 H5 →
          SqT K H5 c [.int (m1 * t1 + m2 * t3), .int (m1 * t2 + m2 * t4), .int (m3 * t1 + m4 * t3), .int (m3 * t2 + m4 * t4)] → Lc4 (i + 1) (m1 * t1 + m2 * t3) (m1 * t2 + m2 * t4) (m3 * t1 + m4 * t3) (m3 * t2 + m4 * t4) →
          ∃ (b : Addr) (m1 m2 m3 m4 : Int) (x3 x4 : Option V), σ = [some (.ref p), some (.int many), some (.ref b), x3, x4] ∧ Dw H5 p a (N + 1 + 2 * (i + 1)) ∧ Kp p H1 H5 ∧ SqT K H5 b [.int m1, .int m2, .int m3, .int m4] ∧ Lc4 (i + 1) m1 m2 m3 m4 :=
        fun e d5 k5 s5 l5 => ⟨_, _, _, _, _, _, _, e, d5, by sizeOf_list_dec, s5, l5⟩
      obtain rfl | rfl | rfl : r3 = 0 ∨ r3 = 1 ∨ r3 = 2 := by omega
      · skip
        clean_wf
        refine key (t1 := 1) (t2 := r2 - 2) (t3 := 0) (t4 := 1) rfl ?_ ?_ ?_ ?_
        · skip
          clean_wf
        · sizeOf_list_dec
        · skip
          clean_wf
        · exact l2.s1 (by omega) (by omega)
      · skip
        clean_wf
        refine key (t1 := 1) (t2 := 0) (t3 := r2 - 2) (t4 := 1) rfl ?_ ?_ ?_ ?_
        · skip
          clean_wf
        · sizeOf_list_dec
        · skip
          clean_wf
        · exact l2.s2 (by omega) (by omega)
      · skip
        clean_wf
        refine key (t1 := 0) (t2 := -1) (t3 := 1) (t4 := 0) rfl ?_ ?_ ?_ ?_
        · skip
          clean_wf
        · sizeOf_list_dec
        · skip
          clean_wf
        · exact l2.s3
    · obtain ⟨b, m1, m2, m3, m4, x3, x4, rfl, d2, k2, s2, l2⟩ := hPv
      clean_wf
      exact kk _ _ _ _ _ _ (d2.mono (by omega)) (by sizeOf_list_dec) s2 (l2.mono (by omega))
def spLawSquare (_ : PySem.W.Frag) : Sp := fun vs H Q _ => ∃ n : Int, vs = [.int n] ∧ 0 ≤ n ∧ n < 1000000000 ∧ Q (.bl (decide (rootI n * rootI n = n))) H
theorem uLawSquare {K : PySem.W.Frag} {H : Hp} {Q : VK} {E : XK} {vs : List V} {n : Int} (e : vs = [.int n]) (h0 : 0 ≤ n) (h1 : n < 1000000000) (kk : Q (.bl (decide (rootI n * rootI n = n))) H) : spLawSquare K vs H Q E := ⟨n, e, h0, h1, kk⟩
theorem uLawRoot {K : PySem.W.Frag} {H : Hp} {Q : VK} {E : XK} {vs : List V} {n : Int} (e : vs = [.int n]) (h0 : 0 ≤ n) (h1 : n < 1000000000000000000) (kk : Q (.int (rootI n)) H) : spLawRoot K vs H Q E := ⟨n, e, h0, (Bd.om (by omega)).mono (by decide), kk⟩
theorem okLawSquare (T : Txt K mg fa fd) : FnOk P w K mg base CX0 2 (fa 25) (fd 25) ["n"] (spLawSquare K) := by
  refine T.F__law_square.ok scLawSquare (fun vs H Q E h => ?_) (fun cdv A outer s H vs Q E hr h => ?_)
  · obtain ⟨n, rfl, h0, h1, kk⟩ := h
    rfl
  · obtain ⟨n, rfl, h0, h1, kk⟩ := h
    refine ⟨_, (pss_one (ps_ret (pe_and (pe_cmp (pc_ge (pv 0) pe_int)) (pe_one (pe_cmp (pc_eqI (pe_op op_mulW (pe_call (sp := spLawRoot K) (okLawRoot T) hr (by rfl) T.G__law_root T.F__law_root.kp T.B__law_root .nil pass0 (pa_cons (pv 0) pa_nil)) (pe_call (sp := spLawRoot K) (okLawRoot T) hr (by rfl) T.G__law_root T.F__law_root.kp T.B__law_root .nil pass0 (pa_cons (pv 0) pa_nil))) (pv 0))))))), ?_⟩
    obtain ⟨r0, r1⟩ := uLawRoot0 h0
    have br : Bd 60 (rootI n) := Bd.om (by omega)
    clean_wf
    refine wayT (by omega) ?_
    clean_wf
def spLawKind (K : PySem.W.Frag) : Sp := fun vs H Q _ => ∃ (af : Addr) (a b c : Int), vs = [.ref af] ∧ SqT K H af [.int a, .int b, .int c] ∧ a.natAbs ≤ 10000 ∧ b.natAbs ≤ 10000 ∧ c.natAbs ≤ 10000 ∧ ∀ H', Same H H' → Q (.str (kindS (dsc a b c))) H'
theorem uLawKind {K : PySem.W.Frag} {H : Hp} {Q : VK} {E : XK} {vs : List V} {af : Addr} {a b c : Int} (e : vs = [.ref af]) (hs : SqT K H af [.int a, .int b, .int c]) (h1 : a.natAbs ≤ 10000) (h2 : b.natAbs ≤ 10000) (h3 : c.natAbs ≤ 10000) (kk : ∀ H', Same H H' → Q (.str (kindS (dsc a b c))) H') : spLawKind K vs H Q E := ⟨af, a, b, c, e, hs, h1, h2, h3, kk⟩
theorem okLawKind (T : Txt K mg fa fd) : FnOk P w K mg base CX0 3 (fa 26) (fd 26) ["form"] (spLawKind K) := by
  refine T.F__law_kind.ok scLawKind (fun vs H Q E h => ?_) (fun cdv A outer s H vs Q E hr h => ?_)
  · obtain ⟨af, a, b, c, rfl, hs, h1, h2, h3, kk⟩ := h
    rfl
  · obtain ⟨af, a, b, c, rfl, hs, h1, h2, h3, kk⟩ := h
    refine ⟨_, (pss_cons (ps_set (i := 1) scLawKind.nd rfl (Or.inl rfl) (pe_op op_sub (pe_op op_mulW (pe_ix (ixT K) (pv 0) pe_int (fun _ _ => rfl)) (pe_ix (ixT K) (pv 0) pe_int (fun _ _ => rfl))) (pe_op op_mulW (pe_op op_mulW pe_int (pe_ix (ixT K) (pv 0) pe_int (fun _ _ => rfl))) (pe_ix (ixT K) (pv 0) pe_int (fun _ _ => rfl)))))
      (pss_cons (ps_if (pt_cmp (pc_lt (pv 1) pe_int))
      (pss_one (ps_ret pe_str))
      pss_nil)
      (pss_cons (ps_if (pt_cmp (pc_eqI (pv 1) pe_int))
      (pss_one (ps_ret pe_str))
      pss_nil)
      (pss_one (ps_ret (pe_ix (ixL K) (pe_lst (pa_cons pe_str (pa_cons pe_str pa_nil))) (pe_callTy (intQ K) (by rfl) T.m_int (by decide +kernel) (pa_cons (pe_call (sp := spLawSquare K) (okLawSquare T) hr (by rfl) T.G__law_square T.F__law_square.kp T.B__law_square .nil pass0 (pa_cons (pv 1) pa_nil)) pa_nil)) (fun _ _ => rfl))))))), ?_⟩
    have ds := dsc_size (n := 10000) (by decide) (show (a.natAbs : Int) ≤ 10000 by omega) (show (b.natAbs : Int) ≤ 10000 by omega) (show (c.natAbs : Int) ≤ 10000 by omega)
    have ed : b * b - 4 * a * c = dsc a b c := rfl
    have ba : Bd 60 a := Bd.om (by omega)
    have bb : Bd 60 b := Bd.om (by omega)
    have bc : Bd 60 c := Bd.om (by omega)
    clean_wf
    rw [ed]
    generalize dsc a b c = d at *
    refine way2 (fun z => ?_) (fun z => ?_)
    · have e : kindS d = "definite" := by
        unfold kindS
        rw [if_pos z]
      rw [e] at kk
      clean_wf
      exact kk _ (Same.refl _)
    clean_wf
    refine way2 (fun y => ?_) (fun y => ?_)
    · have e : kindS d = "flat" := by
        unfold kindS
        rw [if_neg z, if_pos y]
      rw [e] at kk
      clean_wf
      exact kk _ (Same.refl _)
    clean_wf
    by_cases x : rootI d * rootI d = d
    · have e : kindS d = "split" := by
        unfold kindS
        rw [if_neg z, if_neg y, if_pos x]
      rw [e] at kk
      rw [if_pos (decide_eq_true x)]
      clean_wf
      exact kk _ (by assumption)
    · have e : kindS d = "indefinite" := by
        unfold kindS
        rw [if_neg z, if_neg y, if_neg x]
      rw [e] at kk
      rw [if_neg (fun h => x (of_decide_eq_true h))]
      clean_wf
      exact kk _ (by assumption)
def spLawSplit (K : PySem.W.Frag) : Sp := fun vs H Q _ => ∃ (p0 q0 : Addr) (N : Nat), vs = [.ref p0] ∧ Dw H p0 q0 N ∧ N ≤ 100000 ∧
  ∀ H' t a b c k, Dw H' p0 q0 (N + 10) → Kp p0 H H' → SqT K H' t [.int a, .int b, .int c] → SF k a b c → a.natAbs ≤ 100 → b.natAbs ≤ 100 → c.natAbs ≤ 100 → k ≤ 1000 → Q (.ref t) H'
theorem uLawSplit {K : PySem.W.Frag} {H : Hp} {Q : VK} {E : XK} {vs : List V} {p0 q0 : Addr} {N : Nat} (e : vs = [.ref p0]) (d : Dw H p0 q0 N) (hN : N ≤ 100000)
    (kk : ∀ H' t a b c k, Dw H' p0 q0 (N + 10) → Kp p0 H H' → SqT K H' t [.int a, .int b, .int c] → SF k a b c → a.natAbs ≤ 100 → b.natAbs ≤ 100 → c.natAbs ≤ 100 → k ≤ 1000 → Q (.ref t) H') : spLawSplit K vs H Q E := ⟨p0, q0, N, e, d, hN, kk⟩
theorem sf_of {g p q r s : Int} (g0 : g = 1 ∨ g = 2) (h : p * s ≠ q * r) (hp : p.natAbs ≤ 5) (hq : q.natAbs ≤ 5) (hr : r.natAbs ≤ 5) (hs : s.natAbs ≤ 5) :
    SF (g * ((p * s - q * r).natAbs : Int)) (g * p * r) (g * (p * s + q * r)) (g * q * s) ∧ (g * p * r).natAbs ≤ 100 ∧ (g * (p * s + q * r)).natAbs ≤ 100 ∧ (g * q * s).natAbs ≤ 100 ∧ g * ((p * s - q * r).natAbs : Int) ≤ 1000 := by
  have m1 : (p * r).natAbs ≤ 5 * 5 := by rw [Int.natAbs_mul]; exact Nat.mul_le_mul hp hr
  have m2 : (p * s).natAbs ≤ 5 * 5 := by rw [Int.natAbs_mul]; exact Nat.mul_le_mul hp hs
  have m3 : (q * r).natAbs ≤ 5 * 5 := by rw [Int.natAbs_mul]; exact Nat.mul_le_mul hq hr
  have m4 : (q * s).natAbs ≤ 5 * 5 := by rw [Int.natAbs_mul]; exact Nat.mul_le_mul hq hs
  have e : dsc (g * p * r) (g * (p * s + q * r)) (g * q * s) = g * g * ((p * s - q * r) * (p * s - q * r)) := by
    unfold dsc
    grind
  have e2 : g * ((p * s - q * r).natAbs : Int) * (g * ((p * s - q * r).natAbs : Int)) = g * g * ((p * s - q * r) * (p * s - q * r)) := by
    have : ((p * s - q * r).natAbs : Int) * ((p * s - q * r).natAbs : Int) = (p * s - q * r) * (p * s - q * r) := by
      rcases Int.natAbs_eq (p * s - q * r) with h | h <;> (conv => rhs; rw [h]) <;> grind
    grind
  rw [Int.mul_assoc g p r, Int.mul_assoc g q s] at *
  generalize p * r = x1 at *
  generalize p * s = x2 at *
  generalize q * r = x3 at *
  generalize q * s = x4 at *
  refine ⟨⟨by rw [e, e2], ?_⟩, ?_, ?_, ?_, ?_⟩
  all_goals rcases g0 with rfl | rfl <;> omega
theorem okLawSplit (T : Txt K mg fa fd) : FnOk P w K mg base CX0 2 (fa 27) (fd 27) ["state"] (spLawSplit K) := by
  refine T.F__law_split.ok scLawSplit (fun vs H Q E h => ?_) (fun cdv A outer s H vs Q E hr h => ?_)
  · obtain ⟨p0, q0, N, rfl, d0, hN, kk⟩ := h
    rfl
  · obtain ⟨p0, q0, N, rfl, d0, hN, kk⟩ := h
    refine ⟨_, (pss_cons (ps_asg (pe_lc (own := [("k", 6)]) (g := gName 6) (tt := tYes) rfl scLawSplit.nd (pi_range1 (by rfl) T.m_range (pa_cons pe_int pa_nil)) (blkOk_by (own := [("k", 6)]) (N := ["state", "p", "q", "r", "s", "g", "k"]) (sc := defScope sLawSplit) (by decide +kernel)) (fun _ _ _ _ _ => (pg_name (i := 6) scLawSplit.nd rfl (Or.inl rfl))) (fun _ _ _ _ _ => pts_nil) (fun _ _ _ _ _ => (pe_op op_sub (pe_call (sp := spLawNext K) (okLawNext T) hr (by rfl) T.G__law_next T.F__law_next.kp T.B__law_next .nil pass0 (pa_cons (pv 0) (pa_cons pe_int pa_nil))) pe_int))) (pgU K 4 (by rfl) (pgs_cons (pg_name (i := 1) scLawSplit.nd rfl (Or.inl rfl)) (pgs_cons (pg_name (i := 2) scLawSplit.nd rfl (Or.inl rfl)) (pgs_cons (pg_name (i := 3) scLawSplit.nd rfl (Or.inl rfl)) (pgs_cons (pg_name (i := 4) scLawSplit.nd rfl (Or.inl rfl)) pgs_nil))))))
      (C8.pss_cut (ps_if (pt_cmp (pc_eqI (pe_op op_mulW (pv 1) (pv 4)) (pe_op op_mulW (pv 2) (pv 3))))
      (pss_one (ps_asg (pe_tup (pa_cons pe_int (pa_cons (pe_call (sp := spLawNext K) (okLawNext T) hr (by rfl) T.G__law_next T.F__law_next.kp T.B__law_next .nil pass0 (pa_cons (pv 0) (pa_cons pe_int pa_nil))) (pa_cons pe_int (pa_cons (pe_op op_add pe_int (pe_call (sp := spLawNext K) (okLawNext T) hr (by rfl) T.G__law_next T.F__law_next.kp T.B__law_next .nil pass0 (pa_cons (pv 0) (pa_cons pe_int pa_nil)))) pa_nil))))) (pgT K 4 (by rfl) (pgs_cons (pg_name (i := 1) scLawSplit.nd rfl (Or.inl rfl)) (pgs_cons (pg_name (i := 2) scLawSplit.nd rfl (Or.inl rfl)) (pgs_cons (pg_name (i := 3) scLawSplit.nd rfl (Or.inl rfl)) (pgs_cons (pg_name (i := 4) scLawSplit.nd rfl (Or.inl rfl)) pgs_nil)))))))
      pss_nil)
      (pss_cons (ps_set (i := 5) scLawSplit.nd rfl (Or.inl rfl) (pe_op op_add pe_int (pe_op op_fdiv (pe_call (sp := spLawNext K) (okLawNext T) hr (by rfl) T.G__law_next T.F__law_next.kp T.B__law_next .nil pass0 (pa_cons (pv 0) (pa_cons pe_int pa_nil))) pe_int)))
      (pss_one (ps_ret (pe_tup (pa_cons (pe_op op_mulW (pe_op op_mulW (pv 5) (pv 1)) (pv 3)) (pa_cons (pe_op op_mulW (pv 5) (pe_op op_add (pe_op op_mulW (pv 1) (pv 4)) (pe_op op_mulW (pv 2) (pv 3)))) (pa_cons (pe_op op_mulW (pe_op op_mulW (pv 5) (pv 2)) (pv 4)) pa_nil))))))))), ?_⟩
    clean_wf
    refine R.lcI (c := 1) (fun x => x.natAbs ≤ 5) (by decide) d0 (fun i H' Q' hi d k q => ?_) (fun H2 D xs hD hl hx d2 k2 nD Dp => ?_)
    · skip
      clean_wf
      refine ⟨rfl, ?_⟩
      clean_wf
      intro r H3 ra rb d3 k3
      clean_wf
      exact q _ _ (by omega) d3 k3
    obtain ⟨m1, m2, m3, m4, rfl⟩ : ∃ m1 m2 m3 m4, xs = [m1, m2, m3, m4] := by
      match xs, hl with
      | [a, b, c, d], _ => exact ⟨a, b, c, d, rfl⟩
    have h1 := hx m1 (by simp)
    have h2 := hx m2 (by simp)
    have h3 := hx m3 (by simp)
    have h4 := hx m4 (by simp)
    clear hx hl
    replace hD : H2 D = some (.lst [.int m1, .int m2, .int m3, .int m4]) := hD
    refine r_gunl (SqL.of hD) rfl ?_
    have c1 : Bd 8 m1 := Bd.of h1 (by decide)
    have c2 : Bd 8 m2 := Bd.of h2 (by decide)
    have c3 : Bd 8 m3 := Bd.of h3 (by decide)
    have c4 : Bd 8 m4 := Bd.of h4 (by decide)
    clean_wf
    refine R.cut (Mid := fun σ H' => ∃ (x5 x6 : Option V) (p q r s : Int), σ = [some (.ref p0), some (.int p), some (.int q), some (.int r), some (.int s), x5, x6] ∧ Dw H' p0 q0 (N + 6) ∧ Kp p0 H H' ∧ p * s ≠ q * r ∧ p.natAbs ≤ 5 ∧ q.natAbs ≤ 5 ∧ r.natAbs ≤ 5 ∧ s.natAbs ≤ 5) ?_ (fun σ H3 hM => ?_)
    · skip
      clean_wf
      refine way2 (fun z => ?_) (fun z => ?_)
      · skip
        clean_wf
        intro r1 H3 r1a r1b d3 k3
        clean_wf
        intro r2 H4 r2a r2b d4 k4
        clean_wf
        refine ⟨_, _, 1, r1, 1, 3 + r2, rfl, d4.same sn, ?_, by omega, by omega, by omega, by omega, by omega⟩
        sizeOf_list_dec
      · skip
        clean_wf
        exact ⟨_, _, m1, m2, m3, m4, rfl, d2.mono (by show N + 4 ≤ N + 6; omega), k2, z, h1, h2, h3, h4⟩
    · obtain ⟨x5, x6, p, q, r, s, rfl, d3, k3, hne, g1, g2, g3, g4⟩ := hM
      clear c1 c2 c3 c4
      have c1 : Bd 8 p := Bd.of g1 (by decide)
      have c2 : Bd 8 q := Bd.of g2 (by decide)
      have c3 : Bd 8 r := Bd.of g3 (by decide)
      have c4 : Bd 8 s := Bd.of g4 (by decide)
      clean_wf
      intro r1 H4 r1a r1b d4 k4
      clean_wf
      obtain ⟨f, f1, f2, f3, f4⟩ := sf_of (g := 1 + r1 / 3) (by omega) hne g1 g2 g3 g4
      refine kk _ _ _ _ _ _ ((d4.same sn).mono (by omega)) ?_ (SqT.of ht) f f1 f2 f3 f4
      sizeOf_list_dec
def spLawFlat (K : PySem.W.Frag) : Sp := fun vs H Q _ => ∃ (p0 q0 : Addr) (N : Nat), vs = [.ref p0] ∧ Dw H p0 q0 N ∧ N ≤ 100000 ∧
  ∀ H' t a b c g p q, Dw H' p0 q0 (N + 10) → Kp p0 H H' → SqT K H' t [.int a, .int b, .int c] → g ≠ 0 → (p ≠ 0 ∨ q ≠ 0) → a = g * (p * p) → b = 2 * (g * (p * q)) → c = g * (q * q) → g.natAbs ≤ 3 → p.natAbs ≤ 3 → q.natAbs ≤ 3 → Q (.ref t) H'
theorem uLawFlat {K : PySem.W.Frag} {H : Hp} {Q : VK} {E : XK} {vs : List V} {p0 q0 : Addr} {N : Nat} (e : vs = [.ref p0]) (d : Dw H p0 q0 N) (hN : N ≤ 100000)
    (kk : ∀ H' t a b c g p q, Dw H' p0 q0 (N + 10) → Kp p0 H H' → SqT K H' t [.int a, .int b, .int c] → g ≠ 0 → (p ≠ 0 ∨ q ≠ 0) → a = g * (p * p) → b = 2 * (g * (p * q)) → c = g * (q * q) → g.natAbs ≤ 3 → p.natAbs ≤ 3 → q.natAbs ≤ 3 → Q (.ref t) H') : spLawFlat K vs H Q E := ⟨p0, q0, N, e, d, hN, kk⟩
theorem okLawFlat (T : Txt K mg fa fd) : FnOk P w K mg base CX0 2 (fa 28) (fd 28) ["state"] (spLawFlat K) := by
  refine T.F__law_flat.ok scLawFlat (fun vs H Q E h => ?_) (fun cdv A outer s H vs Q E hr h => ?_)
  · obtain ⟨p0, q0, N, rfl, d0, hN, kk⟩ := h
    rfl
  · obtain ⟨p0, q0, N, rfl, d0, hN, kk⟩ := h
    refine ⟨_, (pss_cons (ps_set (i := 1) scLawFlat.nd rfl (Or.inl rfl) (pe_op op_sub (pe_call (sp := spLawNext K) (okLawNext T) hr (by rfl) T.G__law_next T.F__law_next.kp T.B__law_next .nil pass0 (pa_cons (pv 0) (pa_cons pe_int pa_nil))) pe_int))
      (pss_cons (ps_set (i := 2) scLawFlat.nd rfl (Or.inl rfl) (pe_op op_sub (pe_call (sp := spLawNext K) (okLawNext T) hr (by rfl) T.G__law_next T.F__law_next.kp T.B__law_next .nil pass0 (pa_cons (pv 0) (pa_cons pe_int pa_nil))) pe_int))
      (pss_cons (ps_set (i := 3) scLawFlat.nd rfl (Or.inl rfl) (pe_ix (ixL K) (pe_lst (pa_cons pe_int (pa_cons pe_int (pa_cons (pe_un un_neg pe_int) (pa_cons pe_int (pa_cons (pe_un un_neg pe_int) pa_nil)))))) (pe_call (sp := spLawNext K) (okLawNext T) hr (by rfl) T.G__law_next T.F__law_next.kp T.B__law_next .nil pass0 (pa_cons (pv 0) (pa_cons pe_int pa_nil))) (fun _ _ => rfl)))
      (C8.pss_cut (ps_if (PW.pt (pw_and (pt_cmp (pc_eqI (pv 1) pe_int)) (pw_and1 (pt_cmp (pc_eqI (pv 2) pe_int)))))
      (pss_one (ps_set (i := 2) scLawFlat.nd rfl (Or.inl rfl) pe_int))
      pss_nil)
      (pss_one (ps_ret (pe_tup (pa_cons (pe_op op_mulW (pe_op op_mulW (pv 3) (pv 1)) (pv 1)) (pa_cons (pe_op op_mulW (pe_op op_mulW (pe_op op_mulW pe_int (pv 3)) (pv 1)) (pv 2)) (pa_cons (pe_op op_mulW (pe_op op_mulW (pv 3) (pv 2)) (pv 2)) pa_nil)))))))))), ?_⟩
    clean_wf
    intro r1 H2 r1a r1b d2 k2
    clean_wf
    intro r2 H3 r2a r2b d3 k3
    clean_wf
    intro r3 H4 r3a r3b d4 k4
    obtain ⟨g, hg, eg⟩ : ∃ v : Int, (v = 1 ∨ v = -1 ∨ v = 2 ∨ v = -3) ∧ atI [V.int 1, V.int 1, V.int (-1), V.int 2, V.int (-3)] r3 = some (.int v) := by
      obtain rfl | rfl | rfl | rfl | rfl : r3 = 0 ∨ r3 = 1 ∨ r3 = 2 ∨ r3 = 3 ∨ r3 = 4 := by omega
      · exact ⟨1, .inl rfl, rfl⟩
      · exact ⟨1, .inl rfl, rfl⟩
      · exact ⟨-1, .inr (.inl rfl), rfl⟩
      · exact ⟨2, .inr (.inr (.inl rfl)), rfl⟩
      · exact ⟨-3, .inr (.inr (.inr rfl)), rfl⟩
    refine R.ixL (xs := [V.int 1, V.int 1, V.int (-1), V.int 2, V.int (-3)]) (by array_get_dec) eg ?_
    clean_wf
    have kf : Kp p0 H H4 := by sizeOf_list_dec
    refine R.cut (Mid := fun σ H' => ∃ (p q : Int), σ = [some (.ref p0), some (.int p), some (.int q), some (.int g)] ∧ H' = H4 ∧ (p ≠ 0 ∨ q ≠ 0) ∧ p.natAbs ≤ 3 ∧ q.natAbs ≤ 3) ?_ (fun σ H5 hM => ?_)
    · skip
      clean_wf
      refine way2 (fun z => ?_) (fun z => ?_)
      · skip
        clean_wf
        refine way2 (fun z2 => ?_) (fun z2 => ?_)
        · skip
          clean_wf
          exact ⟨_, 1, rfl, rfl, .inr (by decide), by omega, by decide⟩
        · skip
          clean_wf
          exact ⟨_, _, rfl, rfl, .inr z2, by omega, by omega⟩
      · skip
        clean_wf
        exact ⟨_, _, rfl, rfl, .inl z, by omega, by omega⟩
    · obtain ⟨p, q, rfl, rfl, hne, g1, g2⟩ := hM
      have c1 : Bd 8 p := Bd.of g1 (by decide)
      have c2 : Bd 8 q := Bd.of g2 (by decide)
      have bg : Bd 8 g := by rcases hg with rfl | rfl | rfl | rfl <;> (unfold Bd; decide)
      clean_wf
      refine kk _ _ _ _ _ g p q ((d4.same sn).mono (by omega)) ?_ (SqT.of ht) (by omega) hne (Int.mul_assoc _ _ _) ?_ (Int.mul_assoc _ _ _) (by omega) g1 g2
      · exact kf.trans (same_kp sn)
      · grind
def spLawForm (K : PySem.W.Frag) : Sp := fun vs H Q _ => ∃ (p q : Addr) (N : Nat) (ind : Bool), vs = [.ref p, .str (sortS ind)] ∧ Dw H p q N ∧ N ≤ 100000 ∧
  ∀ H' t a b c, Dw H' p q (N + 200) → Kp p H H' → SqT K H' t [.int a, .int b, .int c] → FormOk ind a b c → Q (.ref t) H'
theorem uLawForm {K : PySem.W.Frag} {H : Hp} {Q : VK} {E : XK} {vs : List V} {p q : Addr} {N : Nat} (ind : Bool) (e : vs = [.ref p, .str (sortS ind)]) (d : Dw H p q N) (hN : N ≤ 100000)
    (kk : ∀ H' t a b c, Dw H' p q (N + 200) → Kp p H H' → SqT K H' t [.int a, .int b, .int c] → FormOk ind a b c → Q (.ref t) H') : spLawForm K vs H Q E := ⟨p, q, N, ind, e, d, hN, kk⟩
theorem sgn_at {r : Int} (h0 : 0 ≤ r) (h1 : r < 2) : ∃ v : Int, (v = 1 ∨ v = -1) ∧ atI [V.int 1, V.int (-1)] r = some (.int v) := by
  obtain rfl | rfl : r = 0 ∨ r = 1 := by omega
  · exact ⟨1, .inl rfl, rfl⟩
  · exact ⟨-1, .inr rfl, rfl⟩
theorem sgn_abs {x v : Int} (h : v = 1 ∨ v = -1) : (x * v).natAbs = x.natAbs := by
  rcases h with rfl | rfl
  · rw [Int.mul_one]
  · rw [Int.mul_neg, Int.mul_one, Int.natAbs_neg]
theorem okLawForm (T : Txt K mg fa fd) : FnOk P w K mg base CX0 4 (fa 29) (fd 29) ["state", "sort"] (spLawForm K) := by
  refine T.F__law_form.ok scLawForm (fun vs H Q E h => ?_) (fun cdv A outer s H vs Q E hr h => ?_)
  · obtain ⟨p, q, N, ind, rfl, d0, hN, kk⟩ := h
    rfl
  · obtain ⟨p, q, N, ind, rfl, d0, hN, kk⟩ := h
    refine ⟨_, (pss_cons (ps_if (pt_cmpR op_eq (pv 1) pe_str (nomark _))
      (pss_one ps_never)
      pss_nil)
      (pss_cons (ps_if (pt_cmpR op_eq (pv 1) pe_str (nomark _))
      (pss_one ps_never)
      pss_nil)
      (pss_cons (ps_for PassesOwn.never rfl (pi_range1 (by rfl) T.m_range (pa_cons pe_int pa_nil)) (pg_name (i := 2) scLawForm.nd rfl (Or.inl rfl))
      (pss_cons (ps_set (i := 3) scLawForm.nd rfl (Or.inl rfl) (pe_op op_mulW (pe_op op_add pe_int (pe_call (sp := spLawNext K) (okLawNext T) (hr.mono (by decide)) (by rfl) T.G__law_next T.F__law_next.kp T.B__law_next .nil pass0 (pa_cons (pv 0) (pa_cons pe_int pa_nil)))) (pe_ix (ixL K) (pe_lst (pa_cons pe_int (pa_cons (pe_un un_neg pe_int) pa_nil))) (pe_call (sp := spLawNext K) (okLawNext T) (hr.mono (by decide)) (by rfl) T.G__law_next T.F__law_next.kp T.B__law_next .nil pass0 (pa_cons (pv 0) (pa_cons pe_int pa_nil))) (fun _ _ => rfl))))
        (pss_cons (ps_set (i := 4) scLawForm.nd rfl (Or.inl rfl) (pe_op op_mulW (pe_op op_add pe_int (pe_call (sp := spLawNext K) (okLawNext T) (hr.mono (by decide)) (by rfl) T.G__law_next T.F__law_next.kp T.B__law_next .nil pass0 (pa_cons (pv 0) (pa_cons pe_int pa_nil)))) (pe_ix (ixL K) (pe_lst (pa_cons pe_int (pa_cons (pe_un un_neg pe_int) pa_nil))) (pe_call (sp := spLawNext K) (okLawNext T) (hr.mono (by decide)) (by rfl) T.G__law_next T.F__law_next.kp T.B__law_next .nil pass0 (pa_cons (pv 0) (pa_cons pe_int pa_nil))) (fun _ _ => rfl))))
        (pss_cons (ps_set (i := 5) scLawForm.nd rfl (Or.inl rfl) (pe_tup (pa_cons (pv 3) (pa_cons (pe_op op_sub (pe_call (sp := spLawNext K) (okLawNext T) (hr.mono (by decide)) (by rfl) T.G__law_next T.F__law_next.kp T.B__law_next .nil pass0 (pa_cons (pv 0) (pa_cons pe_int pa_nil))) pe_int) (pa_cons (pv 4) pa_nil)))))
        (pss_one (ps_if (pt_cmpR op_eq (pe_call (sp := spLawKind K) (okLawKind T) hr (by rfl) T.G__law_kind T.F__law_kind.kp T.B__law_kind .nil pass0 (pa_cons (pv 5) pa_nil)) (pv 1) (nomark _))
        (pss_one (ps_ret (pv 5)))
        pss_nil))))))
      (pss_one (ps_ret (pe_ix (ixL K) (pe_lst (pa_cons (pe_tup (pa_cons pe_int (pa_cons pe_int (pa_cons pe_int pa_nil)))) (pa_cons (pe_tup (pa_cons pe_int (pa_cons pe_int (pa_cons (pe_un un_neg pe_int) pa_nil)))) pa_nil))) (pe_callTy (intQ K) (by rfl) T.m_int (by decide +kernel) (pa_cons (pe_cmpR op_eq (pv 1) pe_str (nomark _)) pa_nil)) (fun _ _ => rfl))))))), ?_⟩
    have n1 : ∀ ind : Bool, ¬ (V.str (sortS ind) = V.str "split") := by
      intro ind h
      injection h with h
      cases ind <;> exact absurd h (by decide)
    have n2 : ∀ ind : Bool, ¬ (V.str (sortS ind) = V.str "flat") := by
      intro ind h
      injection h with h
      cases ind <;> exact absurd h (by decide)
    have n3 : ∀ ind : Bool, decide (V.str (sortS ind) = V.str "indefinite") = ind := by
      intro ind
      cases ind
      · exact decide_eq_false (fun h => by injection h with h; exact absurd h (by decide))
      · exact decide_eq_true rfl
    clean_wf
    refine wayF (n1 ind) ?_
    clean_wf
    refine wayF (n2 ind) ?_
    clean_wf
    refine R.forN (lo := 0) (n := Int.toNat 30) (fun i σ H' => ∃ (x2 x3 x4 x5 : Option V), σ = [some (.ref p), some (.str (sortS ind)), x2, x3, x4, x5] ∧ Dw H' p q (N + 5 * i) ∧ Kp p H H')
      ⟨_, _, _, _, rfl, d0, Kp.refl⟩ (fun i σ H' hi hPv => ?_) (fun σ H' hPv => ?_)
    · obtain ⟨x2, x3, x4, x5, rfl, dw, kp⟩ := hPv
      replace hi : i < 30 := hi
      clean_wf
      intro r1 H1 r1a r1b d1 k1
      clean_wf
      intro r2 H2 r2a r2b d2 k2
      obtain ⟨v1, hv1, ev1⟩ := sgn_at r2a r2b
      refine R.ixL (xs := [V.int 1, V.int (-1)]) (by array_get_dec) ev1 ?_
      have z1 := sgn_abs (x := 1 + r1) hv1
      clean_wf
      intro r3 H3 r3a r3b d3 k3
      clean_wf
      intro r4 H4 r4a r4b d4 k4
      obtain ⟨v2, hv2, ev2⟩ := sgn_at r4a r4b
      refine R.ixL (xs := [V.int 1, V.int (-1)]) (by array_get_dec) ev2 ?_
      have z2 := sgn_abs (x := 1 + r3) hv2
      clean_wf
      intro r5 H5 r5a r5b d5 k5
      generalize (1 + r1) * v1 = a at *
      generalize (1 + r3) * v2 = c at *
      clean_wf
      intro H6 s6
      clean_wf
      refine way2 (fun z => ?_) (fun z => ?_)
      · skip
        clean_wf
        refine kk _ _ _ _ _ ?_ ?_ (by simp_wf) ⟨by omega, by omega, by omega, ?_⟩
        · exact Dw.mono (N := N + 5 * i + 1 + 1 + 1 + 1 + 1) (by clean_wf) (by omega)
        · sizeOf_list_dec
        · injection z
      · skip
        clean_wf
        refine ⟨_, _, _, _, rfl, Dw.mono (N := N + 5 * i + 1 + 1 + 1 + 1 + 1) (by clean_wf) (by omega), ?_⟩
        sizeOf_list_dec
    · obtain ⟨x2, x3, x4, x5, rfl, dw, kp⟩ := hPv
      replace dw : Dw H' p q (N + 5 * 30) := dw
      clean_wf
      rw [n3 ind]
      cases ind
      · skip
        clean_wf
        refine kk _ _ 1 1 2 ?_ ?_ (by simp_wf) ⟨by decide, by decide, by decide, by decide +kernel⟩
        · exact Dw.mono (N := N + 5 * 30) (by clean_wf) (by omega)
        · sizeOf_list_dec
      · skip
        clean_wf
        refine kk _ _ 1 0 (-2) ?_ ?_ (by simp_wf) ⟨by decide, by decide, by decide, by decide +kernel⟩
        · exact Dw.mono (N := N + 5 * 30) (by clean_wf) (by omega)
        · sizeOf_list_dec
def spLawPell (_ : PySem.W.Frag) : Sp := fun vs H Q _ => ∃ (d : Int) (l : Nat), vs = [.int d] ∧ PellOk d l ∧ pellN l ≤ 5000 ∧ ∀ H' t, Same H H' → H' t = some (.tup [.int (cst (aL d (pellN l))).2.1, .int (cst (aL d (pellN l))).2.2]) → Q (.ref t) H'
theorem okLawPell (T : Txt K mg fa fd) : FnOk P w K mg base CX0 2 (fa 30) (fd 30) ["d"] (spLawPell K) := by
  refine T.F__law_pell.ok scLawPell (fun vs H Q E h => ?_) (fun cdv A outer s H vs Q E hr h => ?_)
  · obtain ⟨d, l, rfl, hP, hN, q⟩ := h
    rfl
  · obtain ⟨d, l, rfl, hP, hN, q⟩ := h
    refine ⟨_, (pss_cons (ps_set (i := 1) scLawPell.nd rfl (Or.inl rfl) (pe_call (sp := spLawRoot K) (okLawRoot T) hr (by rfl) T.G__law_root T.F__law_root.kp T.B__law_root .nil pass0 (pa_cons (pv 0) pa_nil)))
      (pss_cons (ps_par3 (i := 2) (j := 3) (l := 4) (by rfl) scLawPell.nd rfl rfl rfl (by decide) (by decide) (by decide) rfl rfl rfl (pa_cons pe_int (pa_cons pe_int (pa_cons (pv 1) pa_nil))) (by rfl))
      (pss_cons (ps_set (i := 5) scLawPell.nd rfl (Or.inl rfl) (pe_lst (pa_cons pe_int (pa_cons (pv 1) pa_nil))))
      (pss_cons (ps_set (i := 6) scLawPell.nd rfl (Or.inl rfl) (pe_lst (pa_cons pe_int (pa_cons pe_int pa_nil))))
      (pss_cons (ps_for PassesOwn.never rfl (pi_range1 (by rfl) T.m_range (pa_cons pe_int pa_nil)) (pg_name (i := 7) scLawPell.nd rfl (Or.inl rfl))
      (pss_cons (ps_if (pt_cmp (pc_eqI (pe_op op_sub (pe_op op_mulW (pe_ix (ixL K) (pv 5) pe_int (fun _ _ => rfl)) (pe_ix (ixL K) (pv 5) pe_int (fun _ _ => rfl))) (pe_op op_mulW (pe_op op_mul (pv 0) (pe_ix (ixL K) (pv 6) pe_int (fun _ _ => rfl))) (pe_ix (ixL K) (pv 6) pe_int (fun _ _ => rfl)))) pe_int))
        (pss_one (ps_ret (pe_tup (pa_cons (pe_ix (ixL K) (pv 5) pe_int (fun _ _ => rfl)) (pa_cons (pe_ix (ixL K) (pv 6) pe_int (fun _ _ => rfl)) pa_nil)))))
        pss_nil)
        (pss_cons (ps_set (i := 2) scLawPell.nd rfl (Or.inl rfl) (pe_op op_sub (pe_op op_mul (pv 4) (pv 3)) (pv 2)))
        (pss_cons (ps_set (i := 3) scLawPell.nd rfl (Or.inl rfl) (pe_op op_fdivX (pe_op op_sub (pv 0) (pe_op op_mul (pv 2) (pv 2))) (pv 3)))
        (pss_cons (ps_set (i := 4) scLawPell.nd rfl (Or.inl rfl) (pe_op op_fdivX (pe_op op_add (pv 1) (pv 2)) (pv 3)))
        (pss_cons (ps_set (i := 5) scLawPell.nd rfl (Or.inl rfl) (pe_lst (pa_cons (pe_ix (ixL K) (pv 5) pe_int (fun _ _ => rfl)) (pa_cons (pe_op op_add (pe_op op_mul (pv 4) (pe_ix (ixL K) (pv 5) pe_int (fun _ _ => rfl))) (pe_ix (ixL K) (pv 5) pe_int (fun _ _ => rfl))) pa_nil))))
        (pss_one (ps_set (i := 6) scLawPell.nd rfl (Or.inl rfl) (pe_lst (pa_cons (pe_ix (ixL K) (pv 6) pe_int (fun _ _ => rfl)) (pa_cons (pe_op op_add (pe_op op_mul (pv 4) (pe_ix (ixL K) (pv 6) pe_int (fun _ _ => rfl))) (pe_ix (ixL K) (pv 6) pe_int (fun _ _ => rfl))) pa_nil)))))))))))
      (pss_one (ps_ret (pe_tup (pa_cons pe_int (pa_cons pe_int pa_nil)))))))))), ?_⟩
    have hd0 := hP.d0
    have hd1 := hP.d1
    obtain ⟨r0, r1, r2, r3⟩ := hP.sq
    have pn : 1 ≤ pellN l := by
      have h := hP.l0
      unfold pellN
      split <;> omega
    refine ⟨_, rfl, d, rfl, by omega, (Bd.om (by omega)).mono (by decide), ?_⟩
    refine ⟨_, rfl, _, _, _, rfl, ?_⟩
    refine ⟨_, rfl, by show 2 ≤ sizeLine; decide, fun tp ntp => ⟨by show 2 ≤ sizeLine; decide, fun bt nbt => ?_⟩⟩
    refine ⟨5000, rfl, by decide, by decide, ?_⟩
    have s0 := (same_upd (o := .lst [.int 1, .int (rootI d)]) ntp).trans (same_upd (o := .lst [.int 0, .int 1]) nbt)
    have c1 : cst (aL d 1) = ((1, 0), (rootI d, 1)) := by
      rw [cst_aL]
      show ((1, 0), (cfa d (0, 1) 0 * 1 + 0, cfa d (0, 1) 0 * 0 + 1)) = _
      have e : cfa d (0, 1) 0 = rootI d := by
        unfold cfa
        show partI 0 1 (rootI d) = rootI d
        rw [partI_pos (by decide)]
        simp
      rw [e]
      simp
    have a0 : cfa d (0, 1) 0 = rootI d := by
      unfold cfa
      show partI 0 1 (rootI d) = rootI d
      rw [partI_pos (by decide)]
      simp
    refine for_range (lo := 0) (n := 5000) (fun i σ H' => ∃ (tp bt : Addr) (x7 : Option V), σ = [some (.int d), some (.int (rootI d)), some (.int (cf d (rootI d) (0, 1) i).1), some (.int (cf d (rootI d) (0, 1) i).2), some (.int (cfa d (0, 1) i)), some (.ref tp), some (.ref bt), x7] ∧ i < pellN l ∧ Same H H' ∧
        H' tp = some (.lst [.int (cst (aL d (i + 1))).1.1, .int (cst (aL d (i + 1))).2.1]) ∧ H' bt = some (.lst [.int (cst (aL d (i + 1))).1.2, .int (cst (aL d (i + 1))).2.2]))
      ⟨tp, bt, none, ?_, by omega, s0, ?_, ?_⟩ (fun i σ H' hi ⟨tp, bt, x7, e1, hi2, hs, ht, hb⟩ => ?_) (fun σ H' ⟨tp, bt, x7, e1, hi2, hs, ht, hb⟩ => absurd hi2 (by omega))
    · rw [a0]
      rfl
    · rw [c1]
      exact same_upd nbt _ _ upd_same
    · rw [c1]
      exact upd_same
    subst e1
    have hT : SqL K H' tp [.int (cst (aL d (i + 1))).1.1, .int (cst (aL d (i + 1))).2.1] := SqL.of ht
    have hB : SqL K H' bt [.int (cst (aL d (i + 1))).1.2, .int (cst (aL d (i + 1))).2.2] := SqL.of hb
    obtain ⟨w1, w2, w3, w4⟩ := hP.wide (i + 1)
    have up : (2 : Nat) ^ (8 * (i + 1)) < 2 ^ 40100 := Nat.pow_lt_pow_right (by decide) (by omega)
    have w5 : (d * (cst (aL d (i + 1))).2.2).natAbs < 2 ^ (20 + 40100) := wide_lt (show d.natAbs < 2 ^ 20 by show d.natAbs < 1048576; omega) (Nat.lt_of_le_of_lt w4 up)
    have hit := hP.hit hi2
    refine ⟨_, rfl, _, _, _, _, rfl, rfl, hT, atI_nat (j := 1) rfl, _, rfl, _, _, _, _, rfl, rfl, hT, atI_nat (j := 1) rfl, _, _, rfl, rfl, wide_mul (Nat.lt_of_le_of_lt w3 up) (Nat.lt_of_le_of_lt w3 up) (by decide) (by decide) (by decide), ?_⟩
    refine ⟨_, rfl, _, rfl, _, _, _, _, rfl, rfl, hB, atI_nat (j := 1) rfl, _, _, rfl, rfl, .inl ⟨by omega, by omega⟩, _, rfl, _, _, _, _, rfl, rfl, hB, atI_nat (j := 1) rfl, _, _, rfl, rfl, wide_mul w5 (Nat.lt_of_le_of_lt w4 up) (by decide) (by decide) (by decide), _, _, rfl, rfl, _, _, rfl, rfl, _, rfl, ?_⟩
    rw [Int.mul_assoc d]
    refine way2 (fun h => ?_) (fun h => ?_)
    · have e := hit.mp h
      refine ⟨_, rfl, _, _, _, _, rfl, rfl, hT, atI_nat (j := 1) rfl, _, rfl, _, _, _, _, rfl, rfl, hB, atI_nat (j := 1) rfl, by show 2 ≤ sizeLine; decide, fun t nt => ?_⟩
      rw [← e] at q
      exact q _ t (hs.trans (same_upd nt)) upd_same
    · have hne : i + 1 ≠ pellN l := fun e => h (hit.mpr e)
      obtain ⟨s1, s2, s3, s4⟩ := hP.size i
      obtain ⟨t1, t2, t3, t4⟩ := hP.size (i + 1)
      have big : ∀ z : Int, 0 < z → z ≤ 200 → z.natAbs < 2 ^ 9000 := fun z z0 z1 => pow_up (a := 60) (by show z.natAbs < 1152921504606846976; omega) (by decide)
      have eP : cfa d (0, 1) i * (cf d (rootI d) (0, 1) i).2 - (cf d (rootI d) (0, 1) i).1 = (cf d (rootI d) (0, 1) (i + 1)).1 := rfl
      refine ⟨_, rfl, _, rfl, _, _, rfl, rfl, .inr ⟨by omega, by omega⟩, _, rfl, _, _, rfl, rfl, ?_⟩
      dsimp only
      rw [eP]
      refine ⟨_, rfl, _, rfl, _, rfl, _, _, rfl, rfl, .inl ⟨by omega, by omega⟩, _, _, rfl, rfl, _, rfl, _, _, rfl, rfl, ⟨by omega, big _ s3 s4⟩, ?_⟩
      have eQ : (d - (cf d (rootI d) (0, 1) (i + 1)).1 * (cf d (rootI d) (0, 1) (i + 1)).1).fdiv (cf d (rootI d) (0, 1) i).2 = (cf d (rootI d) (0, 1) (i + 1)).2 := rfl
      dsimp only
      rw [eQ]
      refine ⟨_, rfl, _, rfl, _, _, rfl, rfl, _, rfl, _, _, rfl, rfl, ⟨by omega, big _ t3 t4⟩, ?_⟩
      have eA : (rootI d + (cf d (rootI d) (0, 1) (i + 1)).1).fdiv (cf d (rootI d) (0, 1) (i + 1)).2 = cfa d (0, 1) (i + 1) := by
        unfold cfa partI
        rw [if_pos t3, Int.add_comm]
      dsimp only
      rw [eA]
      obtain ⟨p0, p1⟩ := hP.part (i + 1)
      refine ⟨_, rfl, _, _, _, _, rfl, rfl, hT, atI_nat (j := 1) rfl, _, rfl, _, rfl, _, _, _, _, rfl, rfl, hT, atI_nat (j := 1) rfl, _, _, rfl, rfl, .inl ⟨by omega, by omega⟩, _, rfl, _, _, _, _, rfl, rfl, hT, atI_nat (j := 0) rfl, _, _, rfl, rfl, by show 2 ≤ sizeLine; decide, fun tp2 ntp2 => ?_⟩
      have sA := same_upd (o := .lst [.int (cst (aL d (i + 1))).2.1, .int (cfa d (0, 1) (i + 1) * (cst (aL d (i + 1))).2.1 + (cst (aL d (i + 1))).1.1)]) ntp2
      have hB2 := sA.seq hB
      refine ⟨_, rfl, _, _, _, _, rfl, rfl, hB2, atI_nat (j := 1) rfl, _, rfl, _, rfl, _, _, _, _, rfl, rfl, hB2, atI_nat (j := 1) rfl, _, _, rfl, rfl, .inl ⟨by omega, by omega⟩, _, rfl, _, _, _, _, rfl, rfl, hB2, atI_nat (j := 0) rfl, _, _, rfl, rfl, by show 2 ≤ sizeLine; decide, fun bt2 nbt2 => ?_⟩
      refine ⟨tp2, bt2, _, rfl, by omega, (hs.trans sA).trans (same_upd nbt2), ?_, ?_⟩
      · rw [cst_aL d (i + 1)]
        exact same_upd nbt2 _ _ upd_same
      · rw [cst_aL d (i + 1)]
        exact upd_same
theorem cube_lt {a b : Int} (h1 : 1 ≤ a) (h2 : a < b) : a * (a * a - 3) < b * (b * b - 3) := by
  have e : b * (b * b - 3) - a * (a * a - 3) = (b - a) * (a * a + a * b + b * b - 3) := by grind
  have p1 : 1 * 1 ≤ a * a := Int.mul_le_mul h1 h1 (by omega) (by omega)
  have p2 : 1 * 2 ≤ a * b := Int.mul_le_mul h1 (by omega) (by omega) (by omega)
  have p3 : 2 * 2 ≤ b * b := Int.mul_le_mul (by omega) (by omega) (by omega) (by omega)
  have : 0 < (b - a) * (a * a + a * b + b * b - 3) := Int.mul_pos (by omega) (by omega)
  omega
theorem cube_uniq {x a b : Int} (a1 : 1 ≤ a) (b1 : 1 ≤ b) (ha : a * (a * a - 3) ≤ x) (ha2 : x < (a + 1) * ((a + 1) * (a + 1) - 3)) (hb : b * (b * b - 3) ≤ x) (hb2 : x < (b + 1) * ((b + 1) * (b + 1) - 3)) : a = b := by
  rcases Int.lt_trichotomy a b with h | h | h
  · exfalso
    by_cases z : a + 1 = b
    · rw [z] at ha2
      omega
    · have := cube_lt (a := a + 1) (b := b) (by omega) (by omega)
      omega
  · exact h
  · exfalso
    by_cases z : b + 1 = a
    · rw [z] at hb2
      omega
    · have := cube_lt (a := b + 1) (b := a) (by omega) (by omega)
      omega
def spLawLeast (_ : PySem.W.Frag) : Sp := fun vs H Q _ => ∃ (d : Int) (l : Nat) (x y X Y : Int), vs = [.int d] ∧ 5 ≤ d ∧ d ≤ 9605 ∧ (d % 4 = 0 ∨ d % 4 = 1) ∧ PellOk (pellD d) l ∧ pellN l ≤ 5000 ∧ (cst (aL (pellD d) (pellN l))).2 = (X, Y) ∧ OkU d x y X Y ∧ ∀ H' t, Same H H' → H' t = some (.tup [.int (2 * x - d % 2 * y), .int y]) → Q (.ref t) H'
theorem uLawLeast {K : PySem.W.Frag} {H : Hp} {Q : VK} {E : XK} {vs : List V} {d x y X Y : Int} {l : Nat} (e : vs = [.int d]) (h0 : 5 ≤ d) (h1 : d ≤ 9605) (h4 : d % 4 = 0 ∨ d % 4 = 1) (P : PellOk (pellD d) l) (hN : pellN l ≤ 5000) (hXY : (cst (aL (pellD d) (pellN l))).2 = (X, Y)) (OK : OkU d x y X Y) (kk : ∀ H' t, Same H H' → H' t = some (.tup [.int (2 * x - d % 2 * y), .int y]) → Q (.ref t) H') : spLawLeast K vs H Q E := ⟨d, l, x, y, X, Y, e, h0, h1, h4, P, hN, hXY, OK, kk⟩
theorem okLawLeast (T : Txt K mg fa fd) : FnOk P w K mg base CX0 3 (fa 31) (fd 31) ["d"] (spLawLeast K) := by
  refine T.F__law_least.ok scLawLeast (fun vs H Q E h => ?_) (fun cdv A outer s H vs Q E hr h => ?_)
  · obtain ⟨d, l, x, y, X, Y, rfl, h0, h1, h4, P0, hN, hXY, OK, kk⟩ := h
    rfl
  · obtain ⟨d, l, x, y, X, Y, rfl, h0, h1, h4, P0, hN, hXY, OK, kk⟩ := h
    refine ⟨_, (pss_cons (ps_if (pt_cmp (pc_eqI (pe_op op_mod (pv 0) pe_int) pe_int))
      (pss_cons (ps_asg (pe_call (sp := spLawPell K) (okLawPell T) hr (by rfl) T.G__law_pell T.F__law_pell.kp T.B__law_pell .nil pass0 (pa_cons (pe_op op_fdivX (pv 0) pe_int) pa_nil)) (pgT K 2 (by rfl) (pgs_cons (pg_name (i := 1) scLawLeast.nd rfl (Or.inl rfl)) (pgs_cons (pg_name (i := 2) scLawLeast.nd rfl (Or.inl rfl)) pgs_nil))))
        (pss_one (ps_ret (pe_tup (pa_cons (pe_op op_mulW pe_int (pv 1)) (pa_cons (pv 2) pa_nil))))))
      pss_nil)
      (pss_cons (ps_asg (pe_call (sp := spLawPell K) (okLawPell T) hr (by rfl) T.G__law_pell T.F__law_pell.kp T.B__law_pell .nil pass0 (pa_cons (pv 0) pa_nil)) (pgT K 2 (by rfl) (pgs_cons (pg_name (i := 1) scLawLeast.nd rfl (Or.inl rfl)) (pgs_cons (pg_name (i := 2) scLawLeast.nd rfl (Or.inl rfl)) pgs_nil))))
      (pss_cons (ps_set (i := 3) scLawLeast.nd rfl (Or.inl rfl) pe_int)
      (pss_cons (ps_set (i := 4) scLawLeast.nd rfl (Or.inl rfl) (pe_op op_add (pe_op op_mulW pe_int (pv 1)) pe_int))
      (pss_cons (ps_for PassesOwn.never rfl (pi_range1 (by rfl) T.m_range (pa_cons pe_int pa_nil)) (pg_name (i := 5) scLawLeast.nd rfl (Or.inl rfl))
      (pss_one (ps_if (pt_cmp (pc_gt (pe_op op_sub (pv 4) (pv 3)) pe_int))
        (pss_cons (ps_set (i := 6) scLawLeast.nd rfl (Or.inl rfl) (pe_op op_fdivX (pe_op op_add (pv 3) (pv 4)) pe_int))
          (pss_one (ps_if (pt_cmp (pc_gt (pe_op op_mulW (pv 6) (pe_op op_sub (pe_op op_mulW (pv 6) (pv 6)) pe_int)) (pe_op op_mulW pe_int (pv 1))))
          (pss_one (ps_set (i := 4) scLawLeast.nd rfl (Or.inl rfl) (pv 6)))
          (pss_one (ps_set (i := 3) scLawLeast.nd rfl (Or.inl rfl) (pv 6))))))
        pss_nil)))
      (pss_cons (ps_set (i := 7) scLawLeast.nd rfl (Or.inl rfl) (pe_op op_sub (pe_op op_mulW (pv 3) (pv 3)) pe_int))
      (pss_cons (ps_if (PW.pt (pw_or (pt_cmp (pc_neI (pe_op op_mulW (pv 3) (pe_op op_sub (pe_op op_mulW (pv 3) (pv 3)) pe_int)) (pe_op op_mulW pe_int (pv 1)))) (pw_or (pt_cmp (pc_lt (pv 7) (pv 0))) (pw_or (pt_cmp (pc_neI (pe_op op_mod (pv 7) (pv 0)) pe_int)) (pw_or1 (pt_cmp (pc_neI (pe_op op_mulW (pe_call (sp := spLawRoot K) (okLawRoot T) (hr.mono (by decide)) (by rfl) T.G__law_root T.F__law_root.kp T.B__law_root .nil pass0 (pa_cons (pe_op op_fdivX (pv 7) (pv 0)) pa_nil)) (pe_call (sp := spLawRoot K) (okLawRoot T) (hr.mono (by decide)) (by rfl) T.G__law_root T.F__law_root.kp T.B__law_root .nil pass0 (pa_cons (pe_op op_fdivX (pv 7) (pv 0)) pa_nil))) (pe_op op_fdivX (pv 7) (pv 0)))))))))
      (pss_one (ps_ret (pe_tup (pa_cons (pe_op op_mulW pe_int (pv 1)) (pa_cons (pe_op op_mulW pe_int (pv 2)) pa_nil)))))
      pss_nil)
      (pss_one (ps_ret (pe_tup (pa_cons (pv 3) (pa_cons (pe_call (sp := spLawRoot K) (okLawRoot T) (hr.mono (by decide)) (by rfl) T.G__law_root T.F__law_root.kp T.B__law_root .nil pass0 (pa_cons (pe_op op_fdivX (pv 7) (pv 0)) pa_nil)) pa_nil)))))))))))), ?_⟩
    obtain ⟨y1, t0, nrm, ⟨bx0, bx⟩, ⟨by0, by'⟩, ⟨bX0, bX⟩, ⟨bY0, bY⟩, even, odd⟩ := OK
    have bd : Bd 60 d := Bd.om (by omega)
    clean_wf
    refine way2 (fun z => ?_) (fun z => ?_)
    · obtain ⟨e1, e2⟩ := even z
      rw [show pellD d = d / 4 by unfold pellD; rw [if_pos z]] at P0 hXY
      clean_wf
      refine ⟨d / 4, l, by rw [Int.fdiv_eq_ediv_of_nonneg _ (by decide)]; rfl, P0, hN, ?_⟩
      intro H1 t s1 ht1
      rw [hXY] at ht1
      have st := SqT.of (K := K) ht1
      dsimp only at st
      rw [e1, e2] at kk
      clean_wf
      refine kk _ _ ?_ ht
      array_mem_dec
    · have odd := odd (by omega)
      rw [show pellD d = d by unfold pellD; rw [if_neg z]] at P0 hXY
      generalize hT : 2 * x - d % 2 * y = t at *
      clean_wf
      refine ⟨d, l, rfl, P0, hN, ?_⟩
      intro H1 tt s1 ht1
      rw [hXY] at ht1
      have st := SqT.of (K := K) ht1
      dsimp only at st
      clean_wf
      have b18 : ∀ m : Int, 0 ≤ m → m ≤ 2 * X + 4 → Bd 1803 m := fun m m0 m1 => by
        have h : X.natAbs < 2 ^ 1800 := bX
        have e : (2 : Nat) ^ 1803 = 2 ^ 1800 * 8 := Nat.pow_add 2 1800 3
        have e2 : (2 : Nat) ^ 1 ≤ 2 ^ 1800 := Nat.pow_le_pow_right (by decide) (by decide)
        show m.natAbs < 2 ^ 1803
        rw [e]
        generalize (2 : Nat) ^ 1800 = B at *
        omega
      refine R.forN (lo := 0) (n := Int.toNat 2000) (fun i σ H' => ∃ (low high : Int) (x5 x6 : Option V), σ = [some (.int d), some (.int X), some (.int Y), some (.int low), some (.int high), x5, x6, none] ∧ Same H H' ∧ 1 ≤ low ∧ low < high ∧ high ≤ 2 * X + 4 ∧ low * (low * low - 3) ≤ 2 * X ∧ 2 * X < high * (high * high - 3) ∧ (high - low - 1) * 2 ^ i ≤ 2 * X + 4)
        ⟨1, 2 * X + 4, _, _, rfl, s1, by decide, by omega, by omega, by omega, ?_, by simp; omega⟩ (fun i σ H' hi hPv => ?_) (fun σ H' hPv => ?_)
      · have p : 2 * 2 ≤ (2 * X + 4) * (2 * X + 4) := Int.mul_le_mul (by omega) (by omega) (by omega) (by omega)
        have p2 : (2 * X + 4) * 1 ≤ (2 * X + 4) * ((2 * X + 4) * (2 * X + 4) - 3) := Int.mul_le_mul_of_nonneg_left (by omega) (by omega)
        omega
      · obtain ⟨low, high, x5, x6, rfl, sm, z0, z1, z2, z3, z4, z5⟩ := hPv
        have bl := b18 low (by omega) (by omega)
        have bh := b18 high (by omega) z2
        clean_wf
        refine way2 (fun w => ?_) (fun w => ?_)
        · obtain ⟨y1, y2, y3, y4⟩ := half_step (i := i) (show low + 1 < high by omega) z5
          have ef : (low + high).fdiv 2 = (low + high) / 2 := Int.fdiv_eq_ediv_of_nonneg _ (by decide)
          have bm : Bd 1803 ((low + high).fdiv 2) := by
            rw [ef]
            exact b18 _ (by omega) (by omega)
          clean_wf
          rw [ef]
          generalize (low + high) / 2 = mid at *
          refine way2 (fun w2 => ?_) (fun w2 => ?_)
          · skip
            clean_wf
            exact ⟨low, mid, _, _, rfl, sm, z0, y3, by omega, z3, by omega, y1⟩
          · skip
            clean_wf
            exact ⟨mid, high, _, _, rfl, sm, by omega, y4, z2, by omega, z4, y2⟩
        · skip
          clean_wf
          refine ⟨low, high, _, _, rfl, sm, z0, z1, z2, z3, z4, ?_⟩
          rw [show high - low - 1 = 0 by omega, Int.zero_mul]
          omega
      · obtain ⟨low, high, x5, x6, rfl, sm, z0, z1, z2, z3, z4, z5⟩ := hPv
        replace z5 : (high - low - 1) * 2 ^ 2000 ≤ 2 * X + 4 := z5
        have e : high = low + 1 := by
          by_cases y9 : high = low + 1
          · exact y9
          · exfalso
            have h : X.natAbs < 2 ^ 1800 := bX
            have p : (1 : Int) * 2 ^ 2000 ≤ (high - low - 1) * 2 ^ 2000 := Int.mul_le_mul_of_nonneg_right (by omega) (Int.le_of_lt (Int.pow_pos (by decide)))
            have e1 : ((2 ^ 2000 : Nat) : Int) = (2 : Int) ^ 2000 := Int.natCast_pow 2 2000
            have e2 : (2 : Nat) ^ 1800 * 2 ^ 200 = 2 ^ 2000 := (Nat.pow_add 2 1800 200).symm
            have e3 : (8 : Nat) ≤ 2 ^ 200 := by decide
            have e4 : 2 ^ 1800 * 8 ≤ 2 ^ 1800 * 2 ^ 200 := Nat.mul_le_mul_left _ e3
            have e5 : (2 : Nat) ^ 1 ≤ 2 ^ 1800 := Nat.pow_le_pow_right (by decide) (by decide)
            rw [e2] at e4
            rw [Int.one_mul] at p
            generalize (high - low - 1) * 2 ^ 2000 = W at *
            generalize (2 : Int) ^ 2000 = V at *
            generalize (2 : Nat) ^ 2000 = U at *
            generalize (2 : Nat) ^ 1800 = T at *
            omega
        rw [e] at z4
        have bl := b18 low (by omega) (by omega)
        clear z5 z1 z2 e b18
        have t3 : 3 ≤ t := by
          by_cases y9 : 3 ≤ t
          · exact y9
          · exfalso
            have p : 1 * 1 ≤ y * y := Int.mul_le_mul y1 y1 (by omega) (by omega)
            have p2 : 5 * 1 ≤ d * (y * y) := Int.mul_le_mul h0 p (by omega) (by omega)
            have p3 : t * t ≤ 2 * 2 := Int.mul_le_mul (by omega) (by omega) t0 (by omega)
            omega
        rcases odd with hA | ⟨hB1, hB2, lw, w1, w2, w3, w4⟩
        · have el : low = t := cube_uniq z0 (by omega) z3 z4 (by omega) (by have := cube_lt (a := t) (b := t + 1) (by omega) (by omega); omega)
          clear hT z3 z4
          subst el
          have e4 : low * low - 4 = d * (y * y) := by omega
          have yy : 1 * 1 ≤ y * y := Int.mul_le_mul y1 y1 (by omega) (by omega)
          have dyy : d * 1 ≤ d * (y * y) := Int.mul_le_mul_of_nonneg_left (by omega) (by omega)
          have ef : (d * (y * y)).fdiv d = y * y := Int.mul_fdiv_cancel_left _ (by omega)
          have esq : (y + 1) * (y + 1) = y * y + 2 * y + 1 := by grind
          have ry : rootI (y * y) = y := (rootI_uniq (Int.mul_nonneg by0 by0) by0 (Int.le_refl _) (by omega)).symm
          have byy : Bd 1900 (y * y) := (by'.mul by').mono (by decide)
          clean_wf
          rw [decide_eq_true hA, e4]
          clean_wf
          rw [decide_eq_false (show ¬ d * (y * y) < d by omega)]
          clean_wf
          rw [decide_eq_true (show d * (y * y) % d = 0 from Int.mul_emod_right _ _)]
          have bdyy : Bd 2000 (d * (y * y)) := (bd.mul byy).mono (by decide)
          repeat' (first
            | with_reducible apply R.var
            | with_reducible apply R.gsE
            | ((with_reducible apply R.gsN); (focus exact rfl))
            | with_reducible apply R.lenS
            | ((with_reducible apply R.lenB); exact rfl)
            | ((with_reducible apply R.isEq); exact rfl)
            | with_reducible apply R.op
            | with_reducible apply R.i2
            | with_reducible apply R.i0
            | with_reducible apply R.con
            | with_reducible apply R.cons
            | with_reducible apply R.nil
            | ((with_reducible apply R.gBd); first | with_reducible assumption | with_reducible apply Bd.mul | with_reducible apply Bd.add | with_reducible apply Bd.sub | ((with_reducible apply Bd.l8); exact eq_true (by decide)) | ((with_reducible apply Bd.lit); exact eq_true (by decide)) | with_reducible apply Bd.neg | with_reducible apply Bd.div | with_reducible apply Bd.abs | with_reducible apply Bd.mod | with_reducible apply Bd.fdiv | ((with_reducible apply Bd.om); omega))
            | with_reducible apply Bd.mulW
            | ((with_reducible apply R.gSqT); first | with_reducible assumption | ((with_reducible apply SqT.of); with_reducible assumption) | ((with_reducible apply same_seqT); with_reducible assumption) | ((with_reducible apply kp_seqT); with_reducible assumption) | with_reducible apply hU)
            | ((with_reducible apply R.isLe); first | decide | omega)
            | with_reducible apply R.gcons
            | with_reducible apply R.gname
            | ((with_reducible apply R.ixT); (focus ((repeat' (first | with_reducible assumption | with_reducible apply hU | ((with_reducible apply SqT.of); with_reducible assumption) | ((with_reducible apply same_seqT); with_reducible assumption) | ((with_reducible apply kp_seqT); with_reducible assumption) | ((with_reducible apply Dw.same); with_reducible assumption))); done)); exact rfl)
            | ((with_reducible apply R.ixL); (focus ((repeat' (first | with_reducible assumption | ((with_reducible apply SqL.of); with_reducible assumption) | ((with_reducible apply Same.seq); with_reducible assumption) | ((with_reducible apply Kp.seqL); with_reducible assumption) | ((with_reducible apply fresh_ne); with_reducible assumption) | ((with_reducible apply Dw.same); with_reducible assumption))); done)); exact rfl)
            | with_reducible apply R.test
            | with_reducible apply R.tb'
            | with_reducible apply R.isbl
            | with_reducible apply R.cmp
            | with_reducible apply R.t2i
            | with_reducible apply R.intp
            | with_reducible apply R.ifs
            | with_reducible apply R.asg
            | with_reducible apply R.seq
            | with_reducible apply R.gtup
            | with_reducible apply R.u1
            | with_reducible apply R.un
            | with_reducible apply R.ret
            | with_reducible apply R.next
            | with_reducible apply R.call
            | with_reducible apply iteT
            | with_reducible apply iteF
            | with_reducible assumption
            | with_reducible apply R.tup
            | with_reducible apply R.lst
            | with_reducible apply R.callB
            | with_reducible apply R.gnil
            | with_reducible apply R.brk
            | with_reducible apply R.cont
            | with_reducible apply R.drop
            | with_reducible apply R.par
            | with_reducible apply R.par2
            | with_reducible apply R.par3
            | with_reducible apply R.par4
            | with_reducible apply R.tif
            | with_reducible apply R.and
            | with_reducible apply R.or
            | with_reducible apply R.not
            | with_reducible apply R.andV
            | with_reducible apply R.orV
            | with_reducible apply R.notV
            | with_reducible apply R.chain
            | with_reducible apply R.tupL
            | with_reducible apply R.lstL
            | with_reducible apply R.cat
            | with_reducible apply R.absI
            | with_reducible apply R.intI
            | with_reducible apply R.intB
            | with_reducible apply R.eqS
            | with_reducible apply R.eqBl
            | with_reducible apply R.neBl
            | with_reducible apply R.sl
            | with_reducible apply R.noPart
            | with_reducible apply R.part
            | with_reducible apply R.isInt
            | with_reducible apply R.slL
            | with_reducible apply R.isiT
            | with_reducible apply R.isiLst
            | with_reducible apply R.nwT
            | with_reducible apply R.nwL
            | ((with_reducible apply R.mt); intro HN tn sn nn ht)
            | ((with_reducible apply R.ml); intro HN tn sn nn ht)
            | ((with_reducible apply R.isiTupS); focus ((repeat' (first | with_reducible assumption | with_reducible apply hU | ((with_reducible apply SqT.of); with_reducible assumption) | ((with_reducible apply same_seqT); with_reducible assumption) | ((with_reducible apply kp_seqT); with_reducible assumption) | ((with_reducible apply Dw.same); with_reducible assumption))); done))
            | ((with_reducible apply R.ne4); focus ((repeat' (first | with_reducible assumption | with_reducible apply hU | ((with_reducible apply SqT.of); with_reducible assumption) | ((with_reducible apply same_seqT); with_reducible assumption) | ((with_reducible apply kp_seqT); with_reducible assumption) | ((with_reducible apply Dw.same); with_reducible assumption))); done))
            | ((with_reducible apply R.ne3); focus ((repeat' (first | with_reducible assumption | with_reducible apply hU | ((with_reducible apply SqT.of); with_reducible assumption) | ((with_reducible apply same_seqT); with_reducible assumption) | ((with_reducible apply kp_seqT); with_reducible assumption) | ((with_reducible apply Dw.same); with_reducible assumption))); done))
            | ((with_reducible apply R.ne2); focus ((repeat' (first | with_reducible assumption | with_reducible apply hU | ((with_reducible apply SqT.of); with_reducible assumption) | ((with_reducible apply same_seqT); with_reducible assumption) | ((with_reducible apply kp_seqT); with_reducible assumption) | ((with_reducible apply Dw.same); with_reducible assumption))); done))
            | ((with_reducible apply R.eq4); focus ((repeat' (first | with_reducible assumption | with_reducible apply hU | ((with_reducible apply SqT.of); with_reducible assumption) | ((with_reducible apply same_seqT); with_reducible assumption) | ((with_reducible apply kp_seqT); with_reducible assumption) | ((with_reducible apply Dw.same); with_reducible assumption))); done))
            | ((with_reducible apply R.eq3); focus ((repeat' (first | with_reducible assumption | with_reducible apply hU | ((with_reducible apply SqT.of); with_reducible assumption) | ((with_reducible apply same_seqT); with_reducible assumption) | ((with_reducible apply kp_seqT); with_reducible assumption) | ((with_reducible apply Dw.same); with_reducible assumption))); done))
            | ((with_reducible apply R.eq2); focus ((repeat' (first | with_reducible assumption | with_reducible apply hU | ((with_reducible apply SqT.of); with_reducible assumption) | ((with_reducible apply same_seqT); with_reducible assumption) | ((with_reducible apply kp_seqT); with_reducible assumption) | ((with_reducible apply Dw.same); with_reducible assumption))); done))
            | ((with_reducible apply R.nw); intro HN tn sn ht)
            | with_reducible apply R.notT
            | with_reducible apply R.notF
            | ((with_reducible apply SqL.of); with_reducible assumption)
            | ((with_reducible apply sameB); with_reducible assumption)
            | ((with_reducible apply same_at); with_reducible assumption)
            | ((with_reducible apply Same.seq); with_reducible assumption)
            | ((with_reducible apply Kp.seqL); with_reducible assumption)
            | ((with_reducible apply fresh_ne); with_reducible assumption)
            | ((with_reducible apply Dw.same); with_reducible assumption)
            | ((with_reducible apply R.isEq); exact eq_true (by first | decide | omega))
            | ((with_reducible apply R.isLt); first | decide | omega)
            | ((with_reducible apply R.isLtI); first | decide | omega)
            | ((with_reducible apply R.isLeI); first | decide | omega)
            | ((with_reducible apply R.cdiv); exact rfl)
            | ((with_reducible apply R.cpow); exact rfl)
            | with_reducible apply R.cdivX
            | ((with_reducible apply R.isNe); omega)
            | ((with_reducible apply wayNF); first | exact rfl | exact ⟨rfl, rfl⟩ | exact ⟨rfl, rfl, rfl⟩ | exact ⟨rfl, rfl, rfl, rfl⟩)
            | with_reducible apply R.bm
            | ((with_reducible apply R.bmT); (focus ((first | with_reducible assumption | ((with_reducible apply same_at); with_reducible assumption) | ((with_reducible apply kp_at); with_reducible assumption)); done)))
            | with_reducible apply R.dput
            | with_reducible apply R.dget
            | with_reducible apply R.din
            | with_reducible apply R.dget2
            | with_reducible apply R.forE
            | with_reducible apply R.rng1
            | with_reducible apply R.rng2
            | with_reducible apply R.rg1
            | with_reducible apply R.rg2
            | with_reducible apply R.lcE
            | with_reducible apply R.itup
            | with_reducible apply R.ilst
            | with_reducible apply uLawNext
            | with_reducible apply uLawWide
            | with_reducible apply uLawChange
            | with_reducible apply uLawMul
            | with_reducible apply uLawWorth
            | with_reducible apply uDiscriminant
            | with_reducible apply uLawAct
            | with_reducible apply uUnitChange
            | with_reducible apply uLawKind
            | with_reducible apply uLawSquare
            | with_reducible apply uFloorRoot
            | with_reducible apply uFloorRoot
            | with_reducible apply uDiscriminant
            | with_reducible apply uLawMeasure
            | with_reducible apply uContent
            | with_reducible apply uLawSplit
            | with_reducible apply uLawFlat
            | with_reducible apply uDivided
            | fail
            )
          rw [ef]
          refine uLawRootB rfl (Int.mul_nonneg by0 by0) byy ?_
          rw [ry]
          repeat' (first
            | with_reducible apply R.var
            | with_reducible apply R.gsE
            | ((with_reducible apply R.gsN); (focus exact rfl))
            | with_reducible apply R.lenS
            | ((with_reducible apply R.lenB); exact rfl)
            | ((with_reducible apply R.isEq); exact rfl)
            | with_reducible apply R.op
            | with_reducible apply R.i2
            | with_reducible apply R.i0
            | with_reducible apply R.con
            | with_reducible apply R.cons
            | with_reducible apply R.nil
            | ((with_reducible apply R.gBd); first | with_reducible assumption | with_reducible apply Bd.mul | with_reducible apply Bd.add | with_reducible apply Bd.sub | ((with_reducible apply Bd.l8); exact eq_true (by decide)) | ((with_reducible apply Bd.lit); exact eq_true (by decide)) | with_reducible apply Bd.neg | with_reducible apply Bd.div | with_reducible apply Bd.abs | with_reducible apply Bd.mod | with_reducible apply Bd.fdiv | ((with_reducible apply Bd.om); omega))
            | with_reducible apply Bd.mulW
            | ((with_reducible apply R.gSqT); first | with_reducible assumption | ((with_reducible apply SqT.of); with_reducible assumption) | ((with_reducible apply same_seqT); with_reducible assumption) | ((with_reducible apply kp_seqT); with_reducible assumption) | with_reducible apply hU)
            | ((with_reducible apply R.isLe); first | decide | omega)
            | with_reducible apply R.gcons
            | with_reducible apply R.gname
            | ((with_reducible apply R.ixT); (focus ((repeat' (first | with_reducible assumption | with_reducible apply hU | ((with_reducible apply SqT.of); with_reducible assumption) | ((with_reducible apply same_seqT); with_reducible assumption) | ((with_reducible apply kp_seqT); with_reducible assumption) | ((with_reducible apply Dw.same); with_reducible assumption))); done)); exact rfl)
            | ((with_reducible apply R.ixL); (focus ((repeat' (first | with_reducible assumption | ((with_reducible apply SqL.of); with_reducible assumption) | ((with_reducible apply Same.seq); with_reducible assumption) | ((with_reducible apply Kp.seqL); with_reducible assumption) | ((with_reducible apply fresh_ne); with_reducible assumption) | ((with_reducible apply Dw.same); with_reducible assumption))); done)); exact rfl)
            | with_reducible apply R.test
            | with_reducible apply R.tb'
            | with_reducible apply R.isbl
            | with_reducible apply R.cmp
            | with_reducible apply R.t2i
            | with_reducible apply R.intp
            | with_reducible apply R.ifs
            | with_reducible apply R.asg
            | with_reducible apply R.seq
            | with_reducible apply R.gtup
            | with_reducible apply R.u1
            | with_reducible apply R.un
            | with_reducible apply R.ret
            | with_reducible apply R.next
            | with_reducible apply R.call
            | with_reducible apply iteT
            | with_reducible apply iteF
            | with_reducible assumption
            | with_reducible apply R.tup
            | with_reducible apply R.lst
            | with_reducible apply R.callB
            | with_reducible apply R.gnil
            | with_reducible apply R.brk
            | with_reducible apply R.cont
            | with_reducible apply R.drop
            | with_reducible apply R.par
            | with_reducible apply R.par2
            | with_reducible apply R.par3
            | with_reducible apply R.par4
            | with_reducible apply R.tif
            | with_reducible apply R.and
            | with_reducible apply R.or
            | with_reducible apply R.not
            | with_reducible apply R.andV
            | with_reducible apply R.orV
            | with_reducible apply R.notV
            | with_reducible apply R.chain
            | with_reducible apply R.tupL
            | with_reducible apply R.lstL
            | with_reducible apply R.cat
            | with_reducible apply R.absI
            | with_reducible apply R.intI
            | with_reducible apply R.intB
            | with_reducible apply R.eqS
            | with_reducible apply R.eqBl
            | with_reducible apply R.neBl
            | with_reducible apply R.sl
            | with_reducible apply R.noPart
            | with_reducible apply R.part
            | with_reducible apply R.isInt
            | with_reducible apply R.slL
            | with_reducible apply R.isiT
            | with_reducible apply R.isiLst
            | with_reducible apply R.nwT
            | with_reducible apply R.nwL
            | ((with_reducible apply R.mt); intro HN tn sn nn ht)
            | ((with_reducible apply R.ml); intro HN tn sn nn ht)
            | ((with_reducible apply R.isiTupS); focus ((repeat' (first | with_reducible assumption | with_reducible apply hU | ((with_reducible apply SqT.of); with_reducible assumption) | ((with_reducible apply same_seqT); with_reducible assumption) | ((with_reducible apply kp_seqT); with_reducible assumption) | ((with_reducible apply Dw.same); with_reducible assumption))); done))
            | ((with_reducible apply R.ne4); focus ((repeat' (first | with_reducible assumption | with_reducible apply hU | ((with_reducible apply SqT.of); with_reducible assumption) | ((with_reducible apply same_seqT); with_reducible assumption) | ((with_reducible apply kp_seqT); with_reducible assumption) | ((with_reducible apply Dw.same); with_reducible assumption))); done))
            | ((with_reducible apply R.ne3); focus ((repeat' (first | with_reducible assumption | with_reducible apply hU | ((with_reducible apply SqT.of); with_reducible assumption) | ((with_reducible apply same_seqT); with_reducible assumption) | ((with_reducible apply kp_seqT); with_reducible assumption) | ((with_reducible apply Dw.same); with_reducible assumption))); done))
            | ((with_reducible apply R.ne2); focus ((repeat' (first | with_reducible assumption | with_reducible apply hU | ((with_reducible apply SqT.of); with_reducible assumption) | ((with_reducible apply same_seqT); with_reducible assumption) | ((with_reducible apply kp_seqT); with_reducible assumption) | ((with_reducible apply Dw.same); with_reducible assumption))); done))
            | ((with_reducible apply R.eq4); focus ((repeat' (first | with_reducible assumption | with_reducible apply hU | ((with_reducible apply SqT.of); with_reducible assumption) | ((with_reducible apply same_seqT); with_reducible assumption) | ((with_reducible apply kp_seqT); with_reducible assumption) | ((with_reducible apply Dw.same); with_reducible assumption))); done))
            | ((with_reducible apply R.eq3); focus ((repeat' (first | with_reducible assumption | with_reducible apply hU | ((with_reducible apply SqT.of); with_reducible assumption) | ((with_reducible apply same_seqT); with_reducible assumption) | ((with_reducible apply kp_seqT); with_reducible assumption) | ((with_reducible apply Dw.same); with_reducible assumption))); done))
            | ((with_reducible apply R.eq2); focus ((repeat' (first | with_reducible assumption | with_reducible apply hU | ((with_reducible apply SqT.of); with_reducible assumption) | ((with_reducible apply same_seqT); with_reducible assumption) | ((with_reducible apply kp_seqT); with_reducible assumption) | ((with_reducible apply Dw.same); with_reducible assumption))); done))
            | ((with_reducible apply R.nw); intro HN tn sn ht)
            | with_reducible apply R.notT
            | with_reducible apply R.notF
            | ((with_reducible apply SqL.of); with_reducible assumption)
            | ((with_reducible apply sameB); with_reducible assumption)
            | ((with_reducible apply same_at); with_reducible assumption)
            | ((with_reducible apply Same.seq); with_reducible assumption)
            | ((with_reducible apply Kp.seqL); with_reducible assumption)
            | ((with_reducible apply fresh_ne); with_reducible assumption)
            | ((with_reducible apply Dw.same); with_reducible assumption)
            | ((with_reducible apply R.isEq); exact eq_true (by first | decide | omega))
            | ((with_reducible apply R.isLt); first | decide | omega)
            | ((with_reducible apply R.isLtI); first | decide | omega)
            | ((with_reducible apply R.isLeI); first | decide | omega)
            | ((with_reducible apply R.cdiv); exact rfl)
            | ((with_reducible apply R.cpow); exact rfl)
            | with_reducible apply R.cdivX
            | ((with_reducible apply R.isNe); omega)
            | ((with_reducible apply wayNF); first | exact rfl | exact ⟨rfl, rfl⟩ | exact ⟨rfl, rfl, rfl⟩ | exact ⟨rfl, rfl, rfl, rfl⟩)
            | with_reducible apply R.bm
            | ((with_reducible apply R.bmT); (focus ((first | with_reducible assumption | ((with_reducible apply same_at); with_reducible assumption) | ((with_reducible apply kp_at); with_reducible assumption)); done)))
            | with_reducible apply R.dput
            | with_reducible apply R.dget
            | with_reducible apply R.din
            | with_reducible apply R.dget2
            | with_reducible apply R.forE
            | with_reducible apply R.rng1
            | with_reducible apply R.rng2
            | with_reducible apply R.rg1
            | with_reducible apply R.rg2
            | with_reducible apply R.lcE
            | with_reducible apply R.itup
            | with_reducible apply R.ilst
            | with_reducible apply uLawNext
            | with_reducible apply uLawWide
            | with_reducible apply uLawChange
            | with_reducible apply uLawMul
            | with_reducible apply uLawWorth
            | with_reducible apply uDiscriminant
            | with_reducible apply uLawAct
            | with_reducible apply uUnitChange
            | with_reducible apply uLawKind
            | with_reducible apply uLawSquare
            | with_reducible apply uFloorRoot
            | with_reducible apply uFloorRoot
            | with_reducible apply uDiscriminant
            | with_reducible apply uLawMeasure
            | with_reducible apply uContent
            | with_reducible apply uLawSplit
            | with_reducible apply uLawFlat
            | with_reducible apply uDivided
            | fail
            )
          rw [ef]
          refine uLawRootB rfl (Int.mul_nonneg by0 by0) byy ?_
          rw [ry]
          repeat' (first
            | with_reducible apply R.var
            | with_reducible apply R.gsE
            | ((with_reducible apply R.gsN); (focus exact rfl))
            | with_reducible apply R.lenS
            | ((with_reducible apply R.lenB); exact rfl)
            | ((with_reducible apply R.isEq); exact rfl)
            | with_reducible apply R.op
            | with_reducible apply R.i2
            | with_reducible apply R.i0
            | with_reducible apply R.con
            | with_reducible apply R.cons
            | with_reducible apply R.nil
            | ((with_reducible apply R.gBd); first | with_reducible assumption | with_reducible apply Bd.mul | with_reducible apply Bd.add | with_reducible apply Bd.sub | ((with_reducible apply Bd.l8); exact eq_true (by decide)) | ((with_reducible apply Bd.lit); exact eq_true (by decide)) | with_reducible apply Bd.neg | with_reducible apply Bd.div | with_reducible apply Bd.abs | with_reducible apply Bd.mod | with_reducible apply Bd.fdiv | ((with_reducible apply Bd.om); omega))
            | with_reducible apply Bd.mulW
            | ((with_reducible apply R.gSqT); first | with_reducible assumption | ((with_reducible apply SqT.of); with_reducible assumption) | ((with_reducible apply same_seqT); with_reducible assumption) | ((with_reducible apply kp_seqT); with_reducible assumption) | with_reducible apply hU)
            | ((with_reducible apply R.isLe); first | decide | omega)
            | with_reducible apply R.gcons
            | with_reducible apply R.gname
            | ((with_reducible apply R.ixT); (focus ((repeat' (first | with_reducible assumption | with_reducible apply hU | ((with_reducible apply SqT.of); with_reducible assumption) | ((with_reducible apply same_seqT); with_reducible assumption) | ((with_reducible apply kp_seqT); with_reducible assumption) | ((with_reducible apply Dw.same); with_reducible assumption))); done)); exact rfl)
            | ((with_reducible apply R.ixL); (focus ((repeat' (first | with_reducible assumption | ((with_reducible apply SqL.of); with_reducible assumption) | ((with_reducible apply Same.seq); with_reducible assumption) | ((with_reducible apply Kp.seqL); with_reducible assumption) | ((with_reducible apply fresh_ne); with_reducible assumption) | ((with_reducible apply Dw.same); with_reducible assumption))); done)); exact rfl)
            | with_reducible apply R.test
            | with_reducible apply R.tb'
            | with_reducible apply R.isbl
            | with_reducible apply R.cmp
            | with_reducible apply R.t2i
            | with_reducible apply R.intp
            | with_reducible apply R.ifs
            | with_reducible apply R.asg
            | with_reducible apply R.seq
            | with_reducible apply R.gtup
            | with_reducible apply R.u1
            | with_reducible apply R.un
            | with_reducible apply R.ret
            | with_reducible apply R.next
            | with_reducible apply R.call
            | with_reducible apply iteT
            | with_reducible apply iteF
            | with_reducible assumption
            | with_reducible apply R.tup
            | with_reducible apply R.lst
            | with_reducible apply R.callB
            | with_reducible apply R.gnil
            | with_reducible apply R.brk
            | with_reducible apply R.cont
            | with_reducible apply R.drop
            | with_reducible apply R.par
            | with_reducible apply R.par2
            | with_reducible apply R.par3
            | with_reducible apply R.par4
            | with_reducible apply R.tif
            | with_reducible apply R.and
            | with_reducible apply R.or
            | with_reducible apply R.not
            | with_reducible apply R.andV
            | with_reducible apply R.orV
            | with_reducible apply R.notV
            | with_reducible apply R.chain
            | with_reducible apply R.tupL
            | with_reducible apply R.lstL
            | with_reducible apply R.cat
            | with_reducible apply R.absI
            | with_reducible apply R.intI
            | with_reducible apply R.intB
            | with_reducible apply R.eqS
            | with_reducible apply R.eqBl
            | with_reducible apply R.neBl
            | with_reducible apply R.sl
            | with_reducible apply R.noPart
            | with_reducible apply R.part
            | with_reducible apply R.isInt
            | with_reducible apply R.slL
            | with_reducible apply R.isiT
            | with_reducible apply R.isiLst
            | with_reducible apply R.nwT
            | with_reducible apply R.nwL
            | ((with_reducible apply R.mt); intro HN tn sn nn ht)
            | ((with_reducible apply R.ml); intro HN tn sn nn ht)
            | ((with_reducible apply R.isiTupS); focus ((repeat' (first | with_reducible assumption | with_reducible apply hU | ((with_reducible apply SqT.of); with_reducible assumption) | ((with_reducible apply same_seqT); with_reducible assumption) | ((with_reducible apply kp_seqT); with_reducible assumption) | ((with_reducible apply Dw.same); with_reducible assumption))); done))
            | ((with_reducible apply R.ne4); focus ((repeat' (first | with_reducible assumption | with_reducible apply hU | ((with_reducible apply SqT.of); with_reducible assumption) | ((with_reducible apply same_seqT); with_reducible assumption) | ((with_reducible apply kp_seqT); with_reducible assumption) | ((with_reducible apply Dw.same); with_reducible assumption))); done))
            | ((with_reducible apply R.ne3); focus ((repeat' (first | with_reducible assumption | with_reducible apply hU | ((with_reducible apply SqT.of); with_reducible assumption) | ((with_reducible apply same_seqT); with_reducible assumption) | ((with_reducible apply kp_seqT); with_reducible assumption) | ((with_reducible apply Dw.same); with_reducible assumption))); done))
            | ((with_reducible apply R.ne2); focus ((repeat' (first | with_reducible assumption | with_reducible apply hU | ((with_reducible apply SqT.of); with_reducible assumption) | ((with_reducible apply same_seqT); with_reducible assumption) | ((with_reducible apply kp_seqT); with_reducible assumption) | ((with_reducible apply Dw.same); with_reducible assumption))); done))
            | ((with_reducible apply R.eq4); focus ((repeat' (first | with_reducible assumption | with_reducible apply hU | ((with_reducible apply SqT.of); with_reducible assumption) | ((with_reducible apply same_seqT); with_reducible assumption) | ((with_reducible apply kp_seqT); with_reducible assumption) | ((with_reducible apply Dw.same); with_reducible assumption))); done))
            | ((with_reducible apply R.eq3); focus ((repeat' (first | with_reducible assumption | with_reducible apply hU | ((with_reducible apply SqT.of); with_reducible assumption) | ((with_reducible apply same_seqT); with_reducible assumption) | ((with_reducible apply kp_seqT); with_reducible assumption) | ((with_reducible apply Dw.same); with_reducible assumption))); done))
            | ((with_reducible apply R.eq2); focus ((repeat' (first | with_reducible assumption | with_reducible apply hU | ((with_reducible apply SqT.of); with_reducible assumption) | ((with_reducible apply same_seqT); with_reducible assumption) | ((with_reducible apply kp_seqT); with_reducible assumption) | ((with_reducible apply Dw.same); with_reducible assumption))); done))
            | ((with_reducible apply R.nw); intro HN tn sn ht)
            | with_reducible apply R.notT
            | with_reducible apply R.notF
            | ((with_reducible apply SqL.of); with_reducible assumption)
            | ((with_reducible apply sameB); with_reducible assumption)
            | ((with_reducible apply same_at); with_reducible assumption)
            | ((with_reducible apply Same.seq); with_reducible assumption)
            | ((with_reducible apply Kp.seqL); with_reducible assumption)
            | ((with_reducible apply fresh_ne); with_reducible assumption)
            | ((with_reducible apply Dw.same); with_reducible assumption)
            | ((with_reducible apply R.isEq); exact eq_true (by first | decide | omega))
            | ((with_reducible apply R.isLt); first | decide | omega)
            | ((with_reducible apply R.isLtI); first | decide | omega)
            | ((with_reducible apply R.isLeI); first | decide | omega)
            | ((with_reducible apply R.cdiv); exact rfl)
            | ((with_reducible apply R.cpow); exact rfl)
            | with_reducible apply R.cdivX
            | ((with_reducible apply R.isNe); omega)
            | ((with_reducible apply wayNF); first | exact rfl | exact ⟨rfl, rfl⟩ | exact ⟨rfl, rfl, rfl⟩ | exact ⟨rfl, rfl, rfl, rfl⟩)
            | with_reducible apply R.bm
            | ((with_reducible apply R.bmT); (focus ((first | with_reducible assumption | ((with_reducible apply same_at); with_reducible assumption) | ((with_reducible apply kp_at); with_reducible assumption)); done)))
            | with_reducible apply R.dput
            | with_reducible apply R.dget
            | with_reducible apply R.din
            | with_reducible apply R.dget2
            | with_reducible apply R.forE
            | with_reducible apply R.rng1
            | with_reducible apply R.rng2
            | with_reducible apply R.rg1
            | with_reducible apply R.rg2
            | with_reducible apply R.lcE
            | with_reducible apply R.itup
            | with_reducible apply R.ilst
            | with_reducible apply uLawNext
            | with_reducible apply uLawWide
            | with_reducible apply uLawChange
            | with_reducible apply uLawMul
            | with_reducible apply uLawWorth
            | with_reducible apply uDiscriminant
            | with_reducible apply uLawAct
            | with_reducible apply uUnitChange
            | with_reducible apply uLawKind
            | with_reducible apply uLawSquare
            | with_reducible apply uFloorRoot
            | with_reducible apply uFloorRoot
            | with_reducible apply uDiscriminant
            | with_reducible apply uLawMeasure
            | with_reducible apply uContent
            | with_reducible apply uLawSplit
            | with_reducible apply uLawFlat
            | with_reducible apply uDivided
            | fail
            )
          rw [decide_eq_true (show y * y = (d * (y * y)).fdiv d from ef.symm)]
          repeat' (first
            | with_reducible apply R.var
            | with_reducible apply R.gsE
            | ((with_reducible apply R.gsN); (focus exact rfl))
            | with_reducible apply R.lenS
            | ((with_reducible apply R.lenB); exact rfl)
            | ((with_reducible apply R.isEq); exact rfl)
            | with_reducible apply R.op
            | with_reducible apply R.i2
            | with_reducible apply R.i0
            | with_reducible apply R.con
            | with_reducible apply R.cons
            | with_reducible apply R.nil
            | ((with_reducible apply R.gBd); first | with_reducible assumption | with_reducible apply Bd.mul | with_reducible apply Bd.add | with_reducible apply Bd.sub | ((with_reducible apply Bd.l8); exact eq_true (by decide)) | ((with_reducible apply Bd.lit); exact eq_true (by decide)) | with_reducible apply Bd.neg | with_reducible apply Bd.div | with_reducible apply Bd.abs | with_reducible apply Bd.mod | with_reducible apply Bd.fdiv | ((with_reducible apply Bd.om); omega))
            | with_reducible apply Bd.mulW
            | ((with_reducible apply R.gSqT); first | with_reducible assumption | ((with_reducible apply SqT.of); with_reducible assumption) | ((with_reducible apply same_seqT); with_reducible assumption) | ((with_reducible apply kp_seqT); with_reducible assumption) | with_reducible apply hU)
            | ((with_reducible apply R.isLe); first | decide | omega)
            | with_reducible apply R.gcons
            | with_reducible apply R.gname
            | ((with_reducible apply R.ixT); (focus ((repeat' (first | with_reducible assumption | with_reducible apply hU | ((with_reducible apply SqT.of); with_reducible assumption) | ((with_reducible apply same_seqT); with_reducible assumption) | ((with_reducible apply kp_seqT); with_reducible assumption) | ((with_reducible apply Dw.same); with_reducible assumption))); done)); exact rfl)
            | ((with_reducible apply R.ixL); (focus ((repeat' (first | with_reducible assumption | ((with_reducible apply SqL.of); with_reducible assumption) | ((with_reducible apply Same.seq); with_reducible assumption) | ((with_reducible apply Kp.seqL); with_reducible assumption) | ((with_reducible apply fresh_ne); with_reducible assumption) | ((with_reducible apply Dw.same); with_reducible assumption))); done)); exact rfl)
            | with_reducible apply R.test
            | with_reducible apply R.tb'
            | with_reducible apply R.isbl
            | with_reducible apply R.cmp
            | with_reducible apply R.t2i
            | with_reducible apply R.intp
            | with_reducible apply R.ifs
            | with_reducible apply R.asg
            | with_reducible apply R.seq
            | with_reducible apply R.gtup
            | with_reducible apply R.u1
            | with_reducible apply R.un
            | with_reducible apply R.ret
            | with_reducible apply R.next
            | with_reducible apply R.call
            | with_reducible apply iteT
            | with_reducible apply iteF
            | with_reducible assumption
            | with_reducible apply R.tup
            | with_reducible apply R.lst
            | with_reducible apply R.callB
            | with_reducible apply R.gnil
            | with_reducible apply R.brk
            | with_reducible apply R.cont
            | with_reducible apply R.drop
            | with_reducible apply R.par
            | with_reducible apply R.par2
            | with_reducible apply R.par3
            | with_reducible apply R.par4
            | with_reducible apply R.tif
            | with_reducible apply R.and
            | with_reducible apply R.or
            | with_reducible apply R.not
            | with_reducible apply R.andV
            | with_reducible apply R.orV
            | with_reducible apply R.notV
            | with_reducible apply R.chain
            | with_reducible apply R.tupL
            | with_reducible apply R.lstL
            | with_reducible apply R.cat
            | with_reducible apply R.absI
            | with_reducible apply R.intI
            | with_reducible apply R.intB
            | with_reducible apply R.eqS
            | with_reducible apply R.eqBl
            | with_reducible apply R.neBl
            | with_reducible apply R.sl
            | with_reducible apply R.noPart
            | with_reducible apply R.part
            | with_reducible apply R.isInt
            | with_reducible apply R.slL
            | with_reducible apply R.isiT
            | with_reducible apply R.isiLst
            | with_reducible apply R.nwT
            | with_reducible apply R.nwL
            | ((with_reducible apply R.mt); intro HN tn sn nn ht)
            | ((with_reducible apply R.ml); intro HN tn sn nn ht)
            | ((with_reducible apply R.isiTupS); focus ((repeat' (first | with_reducible assumption | with_reducible apply hU | ((with_reducible apply SqT.of); with_reducible assumption) | ((with_reducible apply same_seqT); with_reducible assumption) | ((with_reducible apply kp_seqT); with_reducible assumption) | ((with_reducible apply Dw.same); with_reducible assumption))); done))
            | ((with_reducible apply R.ne4); focus ((repeat' (first | with_reducible assumption | with_reducible apply hU | ((with_reducible apply SqT.of); with_reducible assumption) | ((with_reducible apply same_seqT); with_reducible assumption) | ((with_reducible apply kp_seqT); with_reducible assumption) | ((with_reducible apply Dw.same); with_reducible assumption))); done))
            | ((with_reducible apply R.ne3); focus ((repeat' (first | with_reducible assumption | with_reducible apply hU | ((with_reducible apply SqT.of); with_reducible assumption) | ((with_reducible apply same_seqT); with_reducible assumption) | ((with_reducible apply kp_seqT); with_reducible assumption) | ((with_reducible apply Dw.same); with_reducible assumption))); done))
            | ((with_reducible apply R.ne2); focus ((repeat' (first | with_reducible assumption | with_reducible apply hU | ((with_reducible apply SqT.of); with_reducible assumption) | ((with_reducible apply same_seqT); with_reducible assumption) | ((with_reducible apply kp_seqT); with_reducible assumption) | ((with_reducible apply Dw.same); with_reducible assumption))); done))
            | ((with_reducible apply R.eq4); focus ((repeat' (first | with_reducible assumption | with_reducible apply hU | ((with_reducible apply SqT.of); with_reducible assumption) | ((with_reducible apply same_seqT); with_reducible assumption) | ((with_reducible apply kp_seqT); with_reducible assumption) | ((with_reducible apply Dw.same); with_reducible assumption))); done))
            | ((with_reducible apply R.eq3); focus ((repeat' (first | with_reducible assumption | with_reducible apply hU | ((with_reducible apply SqT.of); with_reducible assumption) | ((with_reducible apply same_seqT); with_reducible assumption) | ((with_reducible apply kp_seqT); with_reducible assumption) | ((with_reducible apply Dw.same); with_reducible assumption))); done))
            | ((with_reducible apply R.eq2); focus ((repeat' (first | with_reducible assumption | with_reducible apply hU | ((with_reducible apply SqT.of); with_reducible assumption) | ((with_reducible apply same_seqT); with_reducible assumption) | ((with_reducible apply kp_seqT); with_reducible assumption) | ((with_reducible apply Dw.same); with_reducible assumption))); done))
            | ((with_reducible apply R.nw); intro HN tn sn ht)
            | with_reducible apply R.notT
            | with_reducible apply R.notF
            | ((with_reducible apply SqL.of); with_reducible assumption)
            | ((with_reducible apply sameB); with_reducible assumption)
            | ((with_reducible apply same_at); with_reducible assumption)
            | ((with_reducible apply Same.seq); with_reducible assumption)
            | ((with_reducible apply Kp.seqL); with_reducible assumption)
            | ((with_reducible apply fresh_ne); with_reducible assumption)
            | ((with_reducible apply Dw.same); with_reducible assumption)
            | ((with_reducible apply R.isEq); exact eq_true (by first | decide | omega))
            | ((with_reducible apply R.isLt); first | decide | omega)
            | ((with_reducible apply R.isLtI); first | decide | omega)
            | ((with_reducible apply R.isLeI); first | decide | omega)
            | ((with_reducible apply R.cdiv); exact rfl)
            | ((with_reducible apply R.cpow); exact rfl)
            | with_reducible apply R.cdivX
            | ((with_reducible apply R.isNe); omega)
            | ((with_reducible apply wayNF); first | exact rfl | exact ⟨rfl, rfl⟩ | exact ⟨rfl, rfl, rfl⟩ | exact ⟨rfl, rfl, rfl, rfl⟩)
            | with_reducible apply R.bm
            | ((with_reducible apply R.bmT); (focus ((first | with_reducible assumption | ((with_reducible apply same_at); with_reducible assumption) | ((with_reducible apply kp_at); with_reducible assumption)); done)))
            | with_reducible apply R.dput
            | with_reducible apply R.dget
            | with_reducible apply R.din
            | with_reducible apply R.dget2
            | with_reducible apply R.forE
            | with_reducible apply R.rng1
            | with_reducible apply R.rng2
            | with_reducible apply R.rg1
            | with_reducible apply R.rg2
            | with_reducible apply R.lcE
            | with_reducible apply R.itup
            | with_reducible apply R.ilst
            | with_reducible apply uLawNext
            | with_reducible apply uLawWide
            | with_reducible apply uLawChange
            | with_reducible apply uLawMul
            | with_reducible apply uLawWorth
            | with_reducible apply uDiscriminant
            | with_reducible apply uLawAct
            | with_reducible apply uUnitChange
            | with_reducible apply uLawKind
            | with_reducible apply uLawSquare
            | with_reducible apply uFloorRoot
            | with_reducible apply uFloorRoot
            | with_reducible apply uDiscriminant
            | with_reducible apply uLawMeasure
            | with_reducible apply uContent
            | with_reducible apply uLawSplit
            | with_reducible apply uLawFlat
            | with_reducible apply uDivided
            | fail
            )
          rw [ef]
          refine uLawRootB rfl (Int.mul_nonneg by0 by0) byy ?_
          rw [ry]
          repeat' (first
            | with_reducible apply R.var
            | with_reducible apply R.gsE
            | ((with_reducible apply R.gsN); (focus exact rfl))
            | with_reducible apply R.lenS
            | ((with_reducible apply R.lenB); exact rfl)
            | ((with_reducible apply R.isEq); exact rfl)
            | with_reducible apply R.op
            | with_reducible apply R.i2
            | with_reducible apply R.i0
            | with_reducible apply R.con
            | with_reducible apply R.cons
            | with_reducible apply R.nil
            | ((with_reducible apply R.gBd); first | with_reducible assumption | with_reducible apply Bd.mul | with_reducible apply Bd.add | with_reducible apply Bd.sub | ((with_reducible apply Bd.l8); exact eq_true (by decide)) | ((with_reducible apply Bd.lit); exact eq_true (by decide)) | with_reducible apply Bd.neg | with_reducible apply Bd.div | with_reducible apply Bd.abs | with_reducible apply Bd.mod | with_reducible apply Bd.fdiv | ((with_reducible apply Bd.om); omega))
            | with_reducible apply Bd.mulW
            | ((with_reducible apply R.gSqT); first | with_reducible assumption | ((with_reducible apply SqT.of); with_reducible assumption) | ((with_reducible apply same_seqT); with_reducible assumption) | ((with_reducible apply kp_seqT); with_reducible assumption) | with_reducible apply hU)
            | ((with_reducible apply R.isLe); first | decide | omega)
            | with_reducible apply R.gcons
            | with_reducible apply R.gname
            | ((with_reducible apply R.ixT); (focus ((repeat' (first | with_reducible assumption | with_reducible apply hU | ((with_reducible apply SqT.of); with_reducible assumption) | ((with_reducible apply same_seqT); with_reducible assumption) | ((with_reducible apply kp_seqT); with_reducible assumption) | ((with_reducible apply Dw.same); with_reducible assumption))); done)); exact rfl)
            | ((with_reducible apply R.ixL); (focus ((repeat' (first | with_reducible assumption | ((with_reducible apply SqL.of); with_reducible assumption) | ((with_reducible apply Same.seq); with_reducible assumption) | ((with_reducible apply Kp.seqL); with_reducible assumption) | ((with_reducible apply fresh_ne); with_reducible assumption) | ((with_reducible apply Dw.same); with_reducible assumption))); done)); exact rfl)
            | with_reducible apply R.test
            | with_reducible apply R.tb'
            | with_reducible apply R.isbl
            | with_reducible apply R.cmp
            | with_reducible apply R.t2i
            | with_reducible apply R.intp
            | with_reducible apply R.ifs
            | with_reducible apply R.asg
            | with_reducible apply R.seq
            | with_reducible apply R.gtup
            | with_reducible apply R.u1
            | with_reducible apply R.un
            | with_reducible apply R.ret
            | with_reducible apply R.next
            | with_reducible apply R.call
            | with_reducible apply iteT
            | with_reducible apply iteF
            | with_reducible assumption
            | with_reducible apply R.tup
            | with_reducible apply R.lst
            | with_reducible apply R.callB
            | with_reducible apply R.gnil
            | with_reducible apply R.brk
            | with_reducible apply R.cont
            | with_reducible apply R.drop
            | with_reducible apply R.par
            | with_reducible apply R.par2
            | with_reducible apply R.par3
            | with_reducible apply R.par4
            | with_reducible apply R.tif
            | with_reducible apply R.and
            | with_reducible apply R.or
            | with_reducible apply R.not
            | with_reducible apply R.andV
            | with_reducible apply R.orV
            | with_reducible apply R.notV
            | with_reducible apply R.chain
            | with_reducible apply R.tupL
            | with_reducible apply R.lstL
            | with_reducible apply R.cat
            | with_reducible apply R.absI
            | with_reducible apply R.intI
            | with_reducible apply R.intB
            | with_reducible apply R.eqS
            | with_reducible apply R.eqBl
            | with_reducible apply R.neBl
            | with_reducible apply R.sl
            | with_reducible apply R.noPart
            | with_reducible apply R.part
            | with_reducible apply R.isInt
            | with_reducible apply R.slL
            | with_reducible apply R.isiT
            | with_reducible apply R.isiLst
            | with_reducible apply R.nwT
            | with_reducible apply R.nwL
            | ((with_reducible apply R.mt); intro HN tn sn nn ht)
            | ((with_reducible apply R.ml); intro HN tn sn nn ht)
            | ((with_reducible apply R.isiTupS); focus ((repeat' (first | with_reducible assumption | with_reducible apply hU | ((with_reducible apply SqT.of); with_reducible assumption) | ((with_reducible apply same_seqT); with_reducible assumption) | ((with_reducible apply kp_seqT); with_reducible assumption) | ((with_reducible apply Dw.same); with_reducible assumption))); done))
            | ((with_reducible apply R.ne4); focus ((repeat' (first | with_reducible assumption | with_reducible apply hU | ((with_reducible apply SqT.of); with_reducible assumption) | ((with_reducible apply same_seqT); with_reducible assumption) | ((with_reducible apply kp_seqT); with_reducible assumption) | ((with_reducible apply Dw.same); with_reducible assumption))); done))
            | ((with_reducible apply R.ne3); focus ((repeat' (first | with_reducible assumption | with_reducible apply hU | ((with_reducible apply SqT.of); with_reducible assumption) | ((with_reducible apply same_seqT); with_reducible assumption) | ((with_reducible apply kp_seqT); with_reducible assumption) | ((with_reducible apply Dw.same); with_reducible assumption))); done))
            | ((with_reducible apply R.ne2); focus ((repeat' (first | with_reducible assumption | with_reducible apply hU | ((with_reducible apply SqT.of); with_reducible assumption) | ((with_reducible apply same_seqT); with_reducible assumption) | ((with_reducible apply kp_seqT); with_reducible assumption) | ((with_reducible apply Dw.same); with_reducible assumption))); done))
            | ((with_reducible apply R.eq4); focus ((repeat' (first | with_reducible assumption | with_reducible apply hU | ((with_reducible apply SqT.of); with_reducible assumption) | ((with_reducible apply same_seqT); with_reducible assumption) | ((with_reducible apply kp_seqT); with_reducible assumption) | ((with_reducible apply Dw.same); with_reducible assumption))); done))
            | ((with_reducible apply R.eq3); focus ((repeat' (first | with_reducible assumption | with_reducible apply hU | ((with_reducible apply SqT.of); with_reducible assumption) | ((with_reducible apply same_seqT); with_reducible assumption) | ((with_reducible apply kp_seqT); with_reducible assumption) | ((with_reducible apply Dw.same); with_reducible assumption))); done))
            | ((with_reducible apply R.eq2); focus ((repeat' (first | with_reducible assumption | with_reducible apply hU | ((with_reducible apply SqT.of); with_reducible assumption) | ((with_reducible apply same_seqT); with_reducible assumption) | ((with_reducible apply kp_seqT); with_reducible assumption) | ((with_reducible apply Dw.same); with_reducible assumption))); done))
            | ((with_reducible apply R.nw); intro HN tn sn ht)
            | with_reducible apply R.notT
            | with_reducible apply R.notF
            | ((with_reducible apply SqL.of); with_reducible assumption)
            | ((with_reducible apply sameB); with_reducible assumption)
            | ((with_reducible apply same_at); with_reducible assumption)
            | ((with_reducible apply Same.seq); with_reducible assumption)
            | ((with_reducible apply Kp.seqL); with_reducible assumption)
            | ((with_reducible apply fresh_ne); with_reducible assumption)
            | ((with_reducible apply Dw.same); with_reducible assumption)
            | ((with_reducible apply R.isEq); exact eq_true (by first | decide | omega))
            | ((with_reducible apply R.isLt); first | decide | omega)
            | ((with_reducible apply R.isLtI); first | decide | omega)
            | ((with_reducible apply R.isLeI); first | decide | omega)
            | ((with_reducible apply R.cdiv); exact rfl)
            | ((with_reducible apply R.cpow); exact rfl)
            | with_reducible apply R.cdivX
            | ((with_reducible apply R.isNe); omega)
            | ((with_reducible apply wayNF); first | exact rfl | exact ⟨rfl, rfl⟩ | exact ⟨rfl, rfl, rfl⟩ | exact ⟨rfl, rfl, rfl, rfl⟩)
            | with_reducible apply R.bm
            | ((with_reducible apply R.bmT); (focus ((first | with_reducible assumption | ((with_reducible apply same_at); with_reducible assumption) | ((with_reducible apply kp_at); with_reducible assumption)); done)))
            | with_reducible apply R.dput
            | with_reducible apply R.dget
            | with_reducible apply R.din
            | with_reducible apply R.dget2
            | with_reducible apply R.forE
            | with_reducible apply R.rng1
            | with_reducible apply R.rng2
            | with_reducible apply R.rg1
            | with_reducible apply R.rg2
            | with_reducible apply R.lcE
            | with_reducible apply R.itup
            | with_reducible apply R.ilst
            | with_reducible apply uLawNext
            | with_reducible apply uLawWide
            | with_reducible apply uLawChange
            | with_reducible apply uLawMul
            | with_reducible apply uLawWorth
            | with_reducible apply uDiscriminant
            | with_reducible apply uLawAct
            | with_reducible apply uUnitChange
            | with_reducible apply uLawKind
            | with_reducible apply uLawSquare
            | with_reducible apply uFloorRoot
            | with_reducible apply uFloorRoot
            | with_reducible apply uDiscriminant
            | with_reducible apply uLawMeasure
            | with_reducible apply uContent
            | with_reducible apply uLawSplit
            | with_reducible apply uLawFlat
            | with_reducible apply uDivided
            | fail
            )
          refine kk _ _ ?_ ht
          array_mem_dec
        · have el : low = lw := cube_uniq z0 (by omega) z3 z4 w2 w3
          subst el
          rw [hB1, hB2] at kk
          clean_wf
          by_cases q1 : low * (low * low - 3) = 2 * X
          · rw [decide_eq_true q1]
            clean_wf
            by_cases q2 : low * low - 4 < d
            · rw [decide_eq_true q2]
              clean_wf
              exact kk _ _ (by array_mem_dec) ht
            · rw [decide_eq_false q2]
              clean_wf
              rw [decide_eq_false (w4.elim (fun h => absurd q1 h) (fun h => h.elim (fun h => absurd h q2) (fun h => h)))]
              clean_wf
              exact kk _ _ (by array_mem_dec) ht
          · rw [decide_eq_false q1]
            clean_wf
            exact kk _ _ (by array_mem_dec) ht
/-- t and u make a self change -/
theorem unit_act {a b c d y t : Int} (hd : dsc a b c = d) (h : t * t = d * (y * y) + 4) : t % 2 = (b * y) % 2 ∧ ∀ p s : Int, 2 * p = t - b * y → 2 * s = t + b * y → p * s - (-c * y) * (a * y) = 1 ∧ fA a b c p (a * y) = a ∧ fB a b c p (-c * y) (a * y) s = b ∧ fA a b c (-c * y) s = c := by
  have hb : b * b = d + 4 * a * c := by
    unfold dsc at hd
    omega
  refine ⟨?_, fun p s hp hs => ?_⟩
  · have e1 : t * t = (b * y) * (b * y) - 4 * (a * c * (y * y)) + 4 := by
      have : (b * y) * (b * y) = (b * b) * (y * y) := by grind
      rw [this, hb, h]
      grind
    generalize b * y = w at *
    rcases Int.emod_two_eq t with h1 | h1 <;> rcases Int.emod_two_eq w with h2 | h2
    · omega
    · exfalso
      have q1 : t * t % 2 = 0 := by rw [Int.mul_emod, h1]; rfl
      have q2 : w * w % 2 = 1 := by rw [Int.mul_emod, h2]; rfl
      omega
    · exfalso
      have q1 : t * t % 2 = 1 := by rw [Int.mul_emod, h1]; rfl
      have q2 : w * w % 2 = 0 := by rw [Int.mul_emod, h2]; rfl
      omega
    · omega
  · have e4 : 4 * (p * s) = t * t - (b * b) * (y * y) := by
      have : (2 * p) * (2 * s) = 4 * (p * s) := by grind
      rw [← this, hp, hs]
      grind
    have dt : p * s = 1 - a * c * (y * y) := by
      rw [h, hb] at e4
      have : d * (y * y) + 4 - (d + 4 * a * c) * (y * y) = 4 * (1 - a * c * (y * y)) := by grind
      omega
    have sp' : s = p + b * y := by omega
    refine ⟨?_, ?_, ?_, ?_⟩
    · rw [dt]
      grind
    · unfold fA
      have : a * p * p + b * p * (a * y) + c * (a * y) * (a * y) = a * (p * (p + b * y) + a * c * (y * y)) := by grind
      rw [this, ← sp', dt]
      grind
    · unfold fB
      have : 2 * a * p * (-c * y) + b * (p * s + -c * y * (a * y)) + 2 * c * (a * y) * s = b * (p * s - a * c * (y * y)) + 2 * a * c * y * (s - p) := by grind
      rw [this, dt, sp']
      grind
    · unfold fA
      have : a * (-c * y) * (-c * y) + b * (-c * y) * s + c * s * s = c * (s * (s - b * y) + a * c * (y * y)) := by grind
      rw [this, show s - b * y = p by omega, Int.mul_comm s p, dt]
      grind
theorem form_div {a b c : Int} (g0 : 0 < gL [a, b, c]) : ∃ A B C : Int, a = gL [a, b, c] * A ∧ b = gL [a, b, c] * B ∧ c = gL [a, b, c] * C ∧ a.fdiv (gL [a, b, c]) = A ∧ b.fdiv (gL [a, b, c]) = B ∧ c.fdiv (gL [a, b, c]) = C := by
  have e := gL_three a b c
  have dA : Nat.gcd (Nat.gcd a.natAbs b.natAbs) c.natAbs ∣ a.natAbs := Nat.dvd_trans (Nat.gcd_dvd_left _ _) (Nat.gcd_dvd_left _ _)
  have dB : Nat.gcd (Nat.gcd a.natAbs b.natAbs) c.natAbs ∣ b.natAbs := Nat.dvd_trans (Nat.gcd_dvd_left _ _) (Nat.gcd_dvd_right _ _)
  have dC : Nat.gcd (Nat.gcd a.natAbs b.natAbs) c.natAbs ∣ c.natAbs := Nat.gcd_dvd_right _ _
  obtain ⟨x, hx⟩ := Int.ofNat_dvd_left.mpr dA
  obtain ⟨y, hy⟩ := Int.ofNat_dvd_left.mpr dB
  obtain ⟨z, hz⟩ := Int.ofNat_dvd_left.mpr dC
  rw [← e] at hx hy hz
  generalize gL [a, b, c] = g at *
  exact ⟨x, y, z, hx, hy, hz, by rw [hx, Int.mul_fdiv_cancel_left _ (by omega)], by rw [hy, Int.mul_fdiv_cancel_left _ (by omega)], by rw [hz, Int.mul_fdiv_cancel_left _ (by omega)]⟩
theorem gL_mul (g x y z : Int) (h : 0 ≤ g) : gL [g * x, g * y, g * z] = g * gL [x, y, z] := by
  rw [gL_three, gL_three, Int.natAbs_mul, Int.natAbs_mul, Int.natAbs_mul, Nat.gcd_mul_left, Nat.gcd_mul_left, Int.natCast_mul]
  congr 1
  omega
theorem gL_gI (a b c : Int) : gI (gI a b) c = gL [a, b, c] := by
  rw [gL_three]
  rfl
theorem fA_g (g a b c x y : Int) : fA (g * a) (g * b) (g * c) x y = g * fA a b c x y := by
  unfold fA
  grind
theorem fB_g (g a b c x y z w : Int) : fB (g * a) (g * b) (g * c) x y z w = g * fB a b c x y z w := by
  unfold fB
  grind
def spLaw (K : PySem.W.Frag) : Sp := fun vs H Q _ => ∃ (a : Addr) (ns : List Int), vs = [.ref a] ∧ SqL K H a (ns.map V.int) ∧ ns.length ≤ 63 ∧ ∀ H', Q (.bl true) H'
theorem okLaw (T : Txt K mg fa fd) : FnOk P w K mg base CX0 7 (fa 32) (fd 32) ["script"] (spLaw K) := by
  refine T.F_law.ok scLaw (fun vs H Q E h => ?_) (fun cdv A outer s H vs Q E hr h => ?_)
  · obtain ⟨l, ns, rfl, hS, hlen, qq⟩ := h
    rfl
  · obtain ⟨l, ns, rfl, hS, hlen, qq⟩ := h
    refine ⟨_, (pss_cons (ps_set (i := 1) scLaw.nd rfl (Or.inl rfl) (pe_call (sp := spLawState K) (okLawState T) (hr.mono (by decide)) (by rfl) T.G__law_state T.F__law_state.kp T.B__law_state .nil pass0 (pa_cons (pv 0) pa_nil)))
      (pss_cons (ps_set (i := 2) scLaw.nd rfl (Or.inl rfl) (pe_op op_add (pe_op op_mulW pe_int (pe_op op_add pe_int (pe_ix (ixL K) (pe_lst (pa_cons (pe_call (sp := spLawNext K) (okLawNext T) (hr.mono (by decide)) (by rfl) T.G__law_next T.F__law_next.kp T.B__law_next .nil pass0 (pa_cons (pv 1) (pa_cons pe_int pa_nil))) (pa_cons (pe_call (sp := spLawWide K) (okLawWide T) (hr.mono (by decide)) (by rfl) T.G__law_wide T.F__law_wide.kp T.B__law_wide .nil pass0 (pa_cons (pv 1) (pa_cons pe_int pa_nil))) pa_nil))) (pe_callTy (intQ K) (by rfl) T.m_int (by decide +kernel) (pa_cons (pe_cmp (pc_eqI (pe_call (sp := spLawNext K) (okLawNext T) (hr.mono (by decide)) (by rfl) T.G__law_next T.F__law_next.kp T.B__law_next .nil pass0 (pa_cons (pv 1) (pa_cons pe_int pa_nil))) pe_int)) pa_nil)) (fun _ _ => rfl)))) (pe_call (sp := spLawNext K) (okLawNext T) (hr.mono (by decide)) (by rfl) T.G__law_next T.F__law_next.kp T.B__law_next .nil pass0 (pa_cons (pv 1) (pa_cons pe_int pa_nil)))))
      (C8.pss_cut (ps_if (PW.pt (pw_and (pt_not (pt_val (pe_call (sp := spLawSquare K) (okLawSquare T) (hr.mono (by decide)) (by rfl) T.G__law_square T.F__law_square.kp T.B__law_square .nil pass0 (pa_cons (pv 2) pa_nil)))) (pw_and1 (pt_cmpR (neDQ K hr.units) (pe_call (sp := spLeastUnit K) (okLeastUnit T) (hr.mono (by decide)) (by rfl) T.G_least_unit T.F_least_unit.kp T.B_least_unit .nil pass0 (pa_cons (pv 2) pa_nil)) (pe_call (sp := spLawLeast K) (okLawLeast T) (hr.mono (by decide)) (by rfl) T.G__law_least T.F__law_least.kp T.B__law_least .nil pass0 (pa_cons (pv 2) pa_nil)) (nomark _)))))
      (pss_one (ps_ret pe_bl))
      pss_nil)
      (pss_cons (ps_set (i := 3) scLaw.nd rfl (Or.inr rfl) (pe_op op_add pe_int (pe_call (sp := spLawNext K) (okLawNext T) (hr.mono (by decide)) (by rfl) T.G__law_next T.F__law_next.kp T.B__law_next .nil pass0 (pa_cons (pv 1) (pa_cons pe_int pa_nil)))))
      (pss_cons (ps_set (i := 4) scLaw.nd rfl (Or.inl rfl) (pe_callTy (tupQ K) (by rfl) T.m_tuple (by decide +kernel) (pa_cons (pe_lc (own := [("part", 11)]) (g := gName 11) (tt := tYes) rfl scLaw.nd (piT K (pe_call (sp := spLawAct K) (okLawAct T) (hr.mono (by decide)) (by rfl) T.G__law_act T.F__law_act.kp T.B__law_act .nil pass0 (pa_cons (pe_call (sp := spLawForm K) (okLawForm T) (hr.mono (by decide)) (by rfl) T.G__law_form T.F__law_form.kp T.B__law_form .nil pass0 (pa_cons (pv 1) (pa_cons pe_str pa_nil))) (pa_cons (pe_call (sp := spLawChange K) (okLawChange T) (hr.mono (by decide)) (by rfl) T.G__law_change T.F__law_change.kp T.B__law_change .nil pass0 (pa_cons (pv 1) (pa_cons pe_int pa_nil))) pa_nil)))) (blkOk_by (own := [("part", 11)]) (N := ["script", "state", "d", "g", "form", "a", "b", "c", "t", "u", "m", "part"]) (sc := defScope sLaw) (by decide +kernel)) (fun _ _ _ _ _ => (pg_name (i := 11) scLaw.nd rfl (Or.inl rfl))) (fun _ _ _ _ _ => pts_nil) (fun _ _ _ _ _ => (pe_op op_mulW (pv 3) (pv 11)))) pa_nil)))
      (pss_cons (ps_set (i := 3) scLaw.nd rfl (Or.inr rfl) (pe_call (sp := spLawMeasure K) (okLawMeasure T) (hr.mono (by decide)) (by rfl) T.G__law_measure T.F__law_measure.kp T.B__law_measure .nil pass0 (pa_cons (pe_call (sp := spLawMeasure K) (okLawMeasure T) (hr.mono (by decide)) (by rfl) T.G__law_measure T.F__law_measure.kp T.B__law_measure .nil pass0 (pa_cons (pe_ix (ixT K) (pv 4) pe_int (fun _ _ => rfl)) (pa_cons (pe_ix (ixT K) (pv 4) pe_int (fun _ _ => rfl)) pa_nil))) (pa_cons (pe_ix (ixT K) (pv 4) pe_int (fun _ _ => rfl)) pa_nil))))
      (pss_cons (ps_asg (pe_lc (own := [("part", 11)]) (g := gName 11) (tt := tYes) rfl scLaw.nd (piT K (pv 4)) (blkOk_by (own := [("part", 11)]) (N := ["script", "state", "d", "g", "form", "a", "b", "c", "t", "u", "m", "part"]) (sc := defScope sLaw) (by decide +kernel)) (fun _ _ _ _ _ => (pg_name (i := 11) scLaw.nd rfl (Or.inl rfl))) (fun _ _ _ _ _ => pts_nil) (fun _ _ _ _ _ => (pe_op op_fdivX (pv 11) (pv 3)))) (pgU K 3 (by rfl) (pgs_cons (pg_name (i := 5) scLaw.nd rfl (Or.inl rfl)) (pgs_cons (pg_name (i := 6) scLaw.nd rfl (Or.inl rfl)) (pgs_cons (pg_name (i := 7) scLaw.nd rfl (Or.inl rfl)) pgs_nil)))))
      (pss_cons (ps_asg (pe_call (sp := spLeastUnit K) (okLeastUnit T) (hr.mono (by decide)) (by rfl) T.G_least_unit T.F_least_unit.kp T.B_least_unit .nil pass0 (pa_cons (pe_op op_sub (pe_op op_mulW (pv 6) (pv 6)) (pe_op op_mulW (pe_op op_mulW pe_int (pv 5)) (pv 7))) pa_nil)) (pgT K 2 (by rfl) (pgs_cons (pg_name (i := 8) scLaw.nd rfl (Or.inl rfl)) (pgs_cons (pg_name (i := 9) scLaw.nd rfl (Or.inl rfl)) pgs_nil))))
      (pss_cons (ps_set (i := 10) scLaw.nd rfl (Or.inl rfl) (pe_call (sp := spSelfChange K) (okSelfChange T) hr (by rfl) T.G_self_change T.F_self_change.kp T.B_self_change .nil pass0 (pa_cons (pv 4) pa_nil)))
      (pss_cons (ps_if (PW.pt (pw_or (pt_cmpR (neDQ K hr.units) (pv 10) (pe_tup (pa_cons (pe_op op_fdivX (pe_op op_sub (pv 8) (pe_op op_mulW (pv 6) (pv 9))) pe_int) (pa_cons (pe_op op_mulW (pe_un un_neg (pv 7)) (pv 9)) (pa_cons (pe_op op_mulW (pv 5) (pv 9)) (pa_cons (pe_op op_fdivX (pe_op op_add (pv 8) (pe_op op_mulW (pv 6) (pv 9))) pe_int) pa_nil))))) (nomark _)) (pw_or1 (pt_cmp (pc_neI (pe_op op_sub (pe_op op_mulW (pe_ix (ixT K) (pv 10) pe_int (fun _ _ => rfl)) (pe_ix (ixT K) (pv 10) pe_int (fun _ _ => rfl))) (pe_op op_mulW (pe_ix (ixT K) (pv 10) pe_int (fun _ _ => rfl)) (pe_ix (ixT K) (pv 10) pe_int (fun _ _ => rfl)))) pe_int)))))
      (pss_one (ps_ret pe_bl))
      pss_nil)
      (pss_one (ps_ret (pe_and (pe_cmpR (eqDQ K hr.units) (pe_call (sp := spLawAct K) (okLawAct T) (hr.mono (by decide)) (by rfl) T.G__law_act T.F__law_act.kp T.B__law_act .nil pass0 (pa_cons (pv 4) (pa_cons (pv 10) pa_nil))) (pv 4) (nomark _)) (pe_one (pe_cmpR (eqDQ K hr.units) (pe_tup (pa_cons (pv 8) (pa_cons (pv 9) pa_nil))) (pe_call (sp := spLawLeast K) (okLawLeast T) (hr.mono (by decide)) (by rfl) T.G__law_least T.F__law_least.kp T.B__law_least .nil pass0 (pa_cons (pe_op op_sub (pe_op op_mulW (pv 6) (pv 6)) (pe_op op_mulW (pe_op op_mulW pe_int (pv 5)) (pv 7))) pa_nil)) (nomark _)))))))))))))))), ?_⟩
    clean_wf
    refine ⟨l, ns, rfl, hS, fun H1 p q s1 d1 => ?_⟩
    clean_wf
    intro r1 H2 r1a r1b d2 k2
    clean_wf
    intro r2 H3 r2a r2b d3 k3
    clean_wf
    have np : tn ≠ p := fresh_ne nn d3
    have lN := SqL.of (K := K) ht
    have dN := d3.same sn
    clear ht nn sn
    generalize tn = tN at *
    generalize HN = H4 at *
    intro r3 H5 r3a r3b d5 k5
    clean_wf
    obtain ⟨v, ev, v0, v1⟩ : ∃ v : Int, atI [V.int r1, V.int r2] (if decide (r3 = 0) = true then 1 else 0) = some (.int v) ∧ 0 ≤ v ∧ v < 2400 := by
      by_cases z : r3 = 0
      · rw [decide_eq_true z, if_pos rfl]
        exact ⟨r2, rfl, r2a, r2b⟩
      · rw [decide_eq_false z, if_neg (by decide)]
        exact ⟨r1, rfl, r1a, by omega⟩
    refine R.ixL (k5.seqL np lN) ev ?_
    clear lN ev
    clean_wf
    intro r4 H6 r4a r4b d6 k6
    have e0 : 5 ≤ 4 * (2 + v) + r4 := by omega
    have e1 : 4 * (2 + v) + r4 ≤ 9605 := by omega
    have e4 : (4 * (2 + v) + r4) % 4 = 0 ∨ (4 * (2 + v) + r4) % 4 = 1 := by omega
    clear k2 k3 k5 k6 d2 d3 d5 dN
    clean_wf
    generalize 4 * (2 + v) + r4 = d at *
    refine R.cut (Mid := fun σ H' => ∃ N, σ = [some (.ref l), some (.ref p), some (.int d), none, none, none, none, none, none, none, none, none] ∧ Dw H' p q N ∧ N ≤ 1000) ?_ (fun σ H' hM => ?_)
    · skip
      clean_wf
      by_cases ns : rootI d * rootI d = d
      · rw [decide_eq_true ns]
        clean_wf
        exact ⟨_, rfl, d6, by decide⟩
      · rw [decide_eq_false ns]
        clean_wf
        obtain ⟨n, j, L, x, y, X, Y, EX, hxy, PO, hN, hXY, OK⟩ := unit_ok e0 e1 e4 ns
        refine uLeastUnit rfl EX hxy (OK.bx.2.mono (by decide)) (OK.by'.2.mono (by decide)) ?_
        intro H7 t7 s7 ht7
        clean_wf
        refine uLawLeast rfl e0 e1 e4 PO hN hXY OK ?_
        intro H8 t8 s8 ht8
        have st7 := same_seqT s8 (SqT.of (K := K) ht7)
        have st8 := SqT.of (K := K) ht8
        clean_wf
        exact ⟨_, rfl, d6.same (s7.trans s8), by decide⟩
    · clear e0 e1 e4 d6
      obtain ⟨N, rfl, d6, hN⟩ := hM
      clean_wf
      intro r5 H7 r5a r5b d7 k7
      clean_wf
      refine uLawForm true rfl d7 (by omega) ?_
      intro H8 tf a b c d8 k8 sF hF
      obtain ⟨f1, f2, f3, f4⟩ := hF
      have fa1 : Bd 10 a := Bd.of (m := 5) f1 (by decide)
      have fb1 : Bd 10 b := Bd.of (m := 6) f2 (by decide)
      have fc1 : Bd 10 c := Bd.of (m := 5) f3 (by decide)
      clean_wf
      intro H9 tm m1 m2 m3 m4 d9 k9 s9 l9
      have l9 := l9.mono (show Int.toNat 3 ≤ 3 by decide)
      obtain ⟨g1, g2, g3, g4⟩ := l9.bd (by decide)
      clean_wf
      obtain ⟨dd0, dns⟩ := kindS_ind f4
      have ds := dsc_size (n := 6) (by decide) (show (a.natAbs : Int) ≤ 6 by omega) (show (b.natAbs : Int) ≤ 6 by omega) (show (c.natAbs : Int) ≤ 6 by omega)
      have sz := act_size (a := a) (b := b) (c := c) (C := 6) (M := 27) (by omega) (by omega) (by omega) l9.2.1 l9.2.2.1 l9.2.2.2.1 l9.2.2.2.2
      have hdd : dsc (fA a b c m1 m3) (fB a b c m1 m2 m3 m4) (fA a b c m2 m4) = dsc a b c := by rw [dsc_act, l9.1, Int.mul_one, Int.mul_one]
      have sF9 : SqT K HN tn [.int (fA a b c m1 m3), .int (fB a b c m1 m2 m3 m4), .int (fA a b c m2 m4)] := SqT.of ht
      clear ht s9 l9 sF g1 g2 g3 g4 fa1 fb1 fc1 f1 f2 f3 f4 sn d9 d8 d7 k9 k8 k7
      generalize fA a b c m1 m3 = x at *
      generalize fB a b c m1 m2 m3 m4 = y at *
      generalize fA a b c m2 m4 = z at *
      generalize dsc a b c = D0 at *
      generalize tn = tG at *
      generalize HN = H10 at *
      obtain ⟨z1, z2, z3⟩ := sz
      have bx : Bd 60 x := Bd.om (by omega)
      have by9 : Bd 60 y := Bd.om (by omega)
      have bz : Bd 60 z := Bd.om (by omega)
      refine R.refs (S := SqT K _) (xs := [.int x, .int y, .int z]) sF9 ?_
      refine R.lcT (ns := [x, y, z]) (fun w => (1 + r5) * w) (by show 3 ≤ 900; decide) sF9 (fun n H' Q' hn sm qx => ?_) (fun H2 D2 hD2 s2 nD2 => ?_)
      · have bn : Bd 60 n := by
          simp only [List.mem_cons, List.not_mem_nil, or_false] at hn
          rcases hn with rfl | rfl | rfl
          · exact bx
          · exact by9
          · exact bz
        clean_wf
        refine ⟨rfl, ?_⟩
        clean_wf
      replace hD2 : H2 D2 = some (.lst [.int ((1 + r5) * x), .int ((1 + r5) * y), .int ((1 + r5) * z)]) := hD2
      have b5 : Bd 8 (1 + r5) := Bd.of (m := 5) (by omega) (by decide)
      have bfx : Bd 68 ((1 + r5) * x) := b5.mul bx
      have bfy : Bd 68 ((1 + r5) * y) := b5.mul by9
      have bfz : Bd 68 ((1 + r5) * z) := b5.mul bz
      have bgg : Bd 68 (gI ((1 + r5) * x) ((1 + r5) * y)) := gI_lt bfx bfy
      clean_wf
      have sF := SqT.of (K := K) ht
      rw [gL_gI]
      clear ht hD2 nD2 sF9 s2 sn bgg
      generalize tn = tF at *
      generalize HN = H11 at *
      have g0 : 0 < gL [x, y, z] := by
        have e := gL_three x y z
        have h0 : gL [x, y, z] ≠ 0 := by
          intro w
          rw [e] at w
          have w1 := Nat.eq_zero_of_gcd_eq_zero_right (show Nat.gcd (Nat.gcd x.natAbs y.natAbs) z.natAbs = 0 by omega)
          have w2 := Nat.eq_zero_of_gcd_eq_zero_left (show Nat.gcd (Nat.gcd x.natAbs y.natAbs) z.natAbs = 0 by omega)
          have w3 := Nat.eq_zero_of_gcd_eq_zero_left w2
          have w4 := Nat.eq_zero_of_gcd_eq_zero_right w2
          have : dsc x y z = 0 := by
            rw [show x = 0 by omega, show y = 0 by omega, show z = 0 by omega]
            rfl
          omega
        omega
      obtain ⟨A, B, C, hx, hy, hz, q1, q2, q3⟩ := form_div g0
      have hgm := gL_mul (1 + r5) x y z (by omega)
      generalize hc0 : gL [x, y, z] = c0 at *
      have hD : D0 = c0 * c0 * dsc A B C := by
        rw [← hdd, hx, hy, hz]
        unfold dsc
        grind
      rw [hgm]
      have D00 : 0 < c0 * c0 := Int.mul_pos g0 g0
      have Dp : 0 < dsc A B C := by
        by_cases w : 0 < dsc A B C
        · exact w
        · have := Int.mul_nonpos_of_nonneg_of_nonpos (show 0 ≤ c0 * c0 by omega) (show dsc A B C ≤ 0 by omega)
          omega
      have Dle : dsc A B C ≤ D0 := by
        have := Int.mul_le_mul_of_nonneg_right (show 1 ≤ c0 * c0 by omega) (show 0 ≤ dsc A B C by omega)
        omega
      have nsD : rootI (dsc A B C) * rootI (dsc A B C) ≠ dsc A B C := by
        intro w
        obtain ⟨w0, _, _⟩ := rootI_spec (n := dsc A B C) (by omega)
        have e9 : (c0 * rootI (dsc A B C)) * (c0 * rootI (dsc A B C)) = D0 := by
          rw [hD]
          conv => rhs; rw [← w]
          grind
        have n9 : 0 ≤ c0 * rootI (dsc A B C) := Int.mul_nonneg (by omega) w0
        have e10 : (c0 * rootI (dsc A B C) + 1) * (c0 * rootI (dsc A B C) + 1) = (c0 * rootI (dsc A B C)) * (c0 * rootI (dsc A B C)) + 2 * (c0 * rootI (dsc A B C)) + 1 := by grind
        have u9 := rootI_uniq (n := D0) (by omega) n9 (by omega) (by omega)
        rw [u9] at e9
        exact dns e9
      have par : dsc A B C % 4 = 0 ∨ dsc A B C % 4 = 1 := by
        unfold dsc
        have hb : B * B % 4 = 0 ∨ B * B % 4 = 1 := by
          have : B % 4 = 0 ∨ B % 4 = 1 ∨ B % 4 = 2 ∨ B % 4 = 3 := by omega
          rw [Int.mul_emod]
          rcases this with h | h | h | h <;> rw [h] <;> decide
        rw [Int.mul_assoc]
        omega
      have D5 : 5 ≤ dsc A B C := by
        by_cases w : 5 ≤ dsc A B C
        · exact w
        · exfalso
          have : dsc A B C = 1 ∨ dsc A B C = 4 := by omega
          rcases this with h | h
          · rw [h] at nsD
            exact nsD (by decide +kernel)
          · rw [h] at nsD
            exact nsD (by decide +kernel)
      obtain ⟨n, j, L, X, Y, X2, Y2, EX, hxy, PO, hN2, hXY, OK⟩ := unit_ok D5 (by omega) par nsD
      have G0 : (1 + r5) * c0 ≠ 0 := by
        have := Int.mul_pos (show 0 < 1 + r5 by omega) g0
        omega
      have fx : ((1 + r5) * x).fdiv ((1 + r5) * c0) = A := by
        rw [hx, ← Int.mul_assoc, Int.mul_fdiv_cancel_left _ G0]
      have fy : ((1 + r5) * y).fdiv ((1 + r5) * c0) = B := by
        rw [hy, ← Int.mul_assoc, Int.mul_fdiv_cancel_left _ G0]
      have fz : ((1 + r5) * z).fdiv ((1 + r5) * c0) = C := by
        rw [hz, ← Int.mul_assoc, Int.mul_fdiv_cancel_left _ G0]
      have ex : (1 + r5) * x = (1 + r5) * c0 * A := by rw [hx, Int.mul_assoc]
      have ey : (1 + r5) * y = (1 + r5) * c0 * B := by rw [hy, Int.mul_assoc]
      have ez : (1 + r5) * z = (1 + r5) * c0 * C := by rw [hz, Int.mul_assoc]
      have bG : Bd 60 ((1 + r5) * c0) := by
        rw [← hgm, gL_three]
        show Int.natAbs _ < _
        rw [Int.natAbs_natCast]
        have d0 : Nat.gcd (Nat.gcd ((1 + r5) * x).natAbs ((1 + r5) * y).natAbs) ((1 + r5) * z).natAbs ≠ 0 := by
          intro w
          have e := gL_three ((1 + r5) * x) ((1 + r5) * y) ((1 + r5) * z)
          rw [w] at e
          omega
        have hx0 : x.natAbs ≠ 0 ∨ y.natAbs ≠ 0 ∨ z.natAbs ≠ 0 := by
          by_cases w : x.natAbs ≠ 0 ∨ y.natAbs ≠ 0 ∨ z.natAbs ≠ 0
          · exact w
          · exfalso
            have : dsc x y z = 0 := by
              rw [show x = 0 by omega, show y = 0 by omega, show z = 0 by omega]
              rfl
            omega
        have le5 : ∀ w : Int, w.natAbs ≤ 100000 → ((1 + r5) * w).natAbs ≤ 500000 := fun w hw => by
          rw [Int.natAbs_mul]
          exact Nat.le_trans (Nat.mul_le_mul (show (1 + r5).natAbs ≤ 5 by omega) hw) (by decide)
        have pos5 : ∀ w : Int, w.natAbs ≠ 0 → 0 < ((1 + r5) * w).natAbs := fun w hw => by
          rw [Int.natAbs_mul]
          exact Nat.mul_pos (by omega) (by omega)
        have hle : Nat.gcd (Nat.gcd ((1 + r5) * x).natAbs ((1 + r5) * y).natAbs) ((1 + r5) * z).natAbs ≤ 500000 := by
          rcases hx0 with h | h | h
          · exact Nat.le_trans (Nat.le_of_dvd (pos5 x h) (Nat.dvd_trans (Nat.gcd_dvd_left _ _) (Nat.gcd_dvd_left _ _))) (le5 x (by omega))
          · exact Nat.le_trans (Nat.le_of_dvd (pos5 y h) (Nat.dvd_trans (Nat.gcd_dvd_left _ _) (Nat.gcd_dvd_right _ _))) (le5 y (by omega))
          · exact Nat.le_trans (Nat.le_of_dvd (pos5 z h) (Nat.gcd_dvd_right _ _)) (le5 z (by omega))
        exact Nat.lt_of_le_of_lt hle (by decide)
      have lA : A.natAbs ≤ x.natAbs ∧ B.natAbs ≤ y.natAbs ∧ C.natAbs ≤ z.natAbs := by
        rw [hx, hy, hz, Int.natAbs_mul, Int.natAbs_mul, Int.natAbs_mul]
        exact ⟨Nat.le_mul_of_pos_left _ (by omega), Nat.le_mul_of_pos_left _ (by omega), Nat.le_mul_of_pos_left _ (by omega)⟩
      have bA : Bd 60 A := Bd.om (by omega)
      have bB : Bd 60 B := Bd.om (by omega)
      have bC : Bd 60 C := Bd.om (by omega)
      obtain ⟨up, ua⟩ := unit_act (a := A) (b := B) (c := C) rfl OK.nrm
      have bX := OK.bx.2
      have bY := OK.by'.2
      clear lA z1 z2 z3 bx by9 bz hx hy hz hgm
      refine R.refs (S := SqT K _) (xs := [.int ((1 + r5) * x), .int ((1 + r5) * y), .int ((1 + r5) * z)]) sF ?_
      refine R.lcT (ns := [(1 + r5) * x, (1 + r5) * y, (1 + r5) * z]) (fun w => w.fdiv ((1 + r5) * c0)) (by show 3 ≤ 900; decide) sF (fun n H' Q' hn sm qx => ?_) (fun H2 D2 hD2 s2 nD2 => ?_)
      · skip
        clean_wf
        refine ⟨rfl, ?_⟩
        clean_wf
      replace hD2 : H2 D2 = some (.lst [.int (((1 + r5) * x).fdiv ((1 + r5) * c0)), .int (((1 + r5) * y).fdiv ((1 + r5) * c0)), .int (((1 + r5) * z).fdiv ((1 + r5) * c0))]) := hD2
      rw [fx, fy, fz] at hD2
      have sF2 := same_seqT s2 sF
      have hgL : gL [(1 + r5) * x, (1 + r5) * y, (1 + r5) * z] = (1 + r5) * c0 := by
        rw [gL_mul _ _ _ _ (by omega), hc0]
      generalize (1 + r5) * c0 = G at *
      generalize (1 + r5) * x = x at *
      generalize (1 + r5) * y = y at *
      generalize (1 + r5) * z = z at *
      clean_wf
      refine r_gunl (SqL.of hD2) rfl ?_
      clean_wf
      have eD : B * B - 4 * A * C = dsc A B C := rfl
      rw [eD]
      have bo : Bd 8 (dsc A B C % 2) := Bd.of (m := 1) (by omega) (by decide)
      refine uLeastUnit rfl EX hxy (bX.mono (by decide)) (bY.mono (by decide)) ?_
      intro H3 t3 s3 ht3
      have st3 := SqT.of (K := K) ht3
      have sF3 := same_seqT s3 sF2
      clean_wf
      refine ⟨tF, x, y, z, G, A, B, C, dsc A B C, n, j, X, Y, rfl, sF3, G0, hgL, fx, fy, fz, bG, bA, bB, bC, rfl, EX, hxy, bX.mono (by decide), bY.mono (by decide), ?_⟩
      intro H12 t12 s12 ht12
      have st12 := SqT.of (K := K) ht12
      have sF12 := same_seqT s12 sF3
      have st3' := same_seqT s12 st3
      clean_wf
      have f2 : ∀ w : Int, w / 2 = w.fdiv 2 := fun w => (Int.fdiv_eq_ediv_of_nonneg _ (by decide)).symm
      rw [decide_eq_true (And.intro (f2 _) (And.intro rfl (And.intro rfl (f2 _))))]
      have bp : Bd 3000 ((2 * X - dsc A B C % 2 * Y - B * Y) / 2) := by apply bdm; clean_wf
      have bs : Bd 3000 ((2 * X - dsc A B C % 2 * Y + B * Y) / 2) := by apply bdm; clean_wf
      have hp2 : 2 * ((2 * X - dsc A B C % 2 * Y - B * Y) / 2) = 2 * X - dsc A B C % 2 * Y - B * Y := by omega
      have hs2 : 2 * ((2 * X - dsc A B C % 2 * Y + B * Y) / 2) = 2 * X - dsc A B C % 2 * Y + B * Y := by omega
      obtain ⟨u1, u2, u3, u4⟩ := ua _ _ hp2 hs2
      generalize (2 * X - dsc A B C % 2 * Y - B * Y) / 2 = P at *
      generalize (2 * X - dsc A B C % 2 * Y + B * Y) / 2 = S at *
      have w1 : x * P * P + y * P * (A * Y) + z * (A * Y) * (A * Y) = x := by
        have h := fA_g G A B C P (A * Y)
        rw [← ex, ← ey, ← ez, u2, ← ex] at h
        exact h
      have w2 : 2 * x * P * (-C * Y) + y * (P * S + -C * Y * (A * Y)) + 2 * z * (A * Y) * S = y := by
        have h := fB_g G A B C P (-C * Y) (A * Y) S
        rw [← ex, ← ey, ← ez, u3, ← ey] at h
        exact h
      have w3 : x * (-C * Y) * (-C * Y) + y * (-C * Y) * S + z * S * S = z := by
        have h := fA_g G A B C (-C * Y) S
        rw [← ex, ← ey, ← ez, u4, ← ez] at h
        exact h
      have sF12' := same_seqT sn sF12
      have st12' := same_seqT sn st12
      clear st12 sF12 sF3 sF2 st3 sF
      clean_wf
      rw [decide_eq_true u1]
      clean_wf
      rw [decide_eq_true (And.intro w1 (And.intro w2 w3))]
      clean_wf
      rw [eD]
      refine uLawLeast rfl D5 (by omega) par PO hN2 hXY OK ?_
      intro H13 t13 s13 ht13
      have st13 := SqT.of (K := K) ht13
      clean_wf
      rw [decide_eq_true (And.intro rfl rfl)]
      exact qq _
end
theorem all_mk {l : PySem.W.OpenLaw} {w : World} {K : PySem.W.Frag} {h : Heap} {mg : Str → Option Value} {f : Addr} (X : K.In h) (G : h.Ns mainGlobals mg) (hfa : mg "law" = some (.ref f))
    {f0 f1 f2 f3 f4 f5 f6 f7 f8 f9 f10 f11 f12 f13 f14 f15 f16 f17 f18 f19 f20 f21 f22 f23 f24 f25 f26 f27 f28 f29 f30 f31 f32 : Addr}
    {od0 an0 od1 an1 od2 an2 od3 an3 od4 an4 od5 an5 od6 an6 od7 an7 od8 an8 od9 an9 od10 an10 od11 an11 od12 an12 od13 an13 od14 an14 od15 an15 od16 an16 od17 an17 od18 an18 od19 an19 od20 an20 od21 an21 od22 an22 od23 an23 od24 an24 od25 an25 od26 an26 od27 an27 od28 an28 od29 an29 od30 an30 od31 an31 od32 an32 : Option Addr} {sl0 sl1 sl2 sl3 sl4 sl5 sl6 sl7 sl8 sl9 sl10 sl11 sl12 sl13 sl14 sl15 sl16 sl17 sl18 sl19 sl20 sl21 sl22 sl23 sl24 sl25 sl26 sl27 sl28 sl29 sl30 sl31 sl32 : Array (Option Value)}
    {oc0 kV0 dc0 pm0 cd0 ct0 oc1 kV1 dc1 pm1 cd1 ct1 oc2 kV2 dc2 pm2 cd2 ct2 oc3 kV3 dc3 pm3 cd3 ct3 oc4 kV4 dc4 pm4 cd4 ct4 oc5 kV5 dc5 pm5 cd5 ct5 oc6 kV6 dc6 pm6 cd6 ct6 oc7 kV7 dc7 pm7 cd7 ct7 oc8 kV8 dc8 pm8 cd8 ct8 oc9 kV9 dc9 pm9 cd9 ct9 oc10 kV10 dc10 pm10 cd10 ct10 oc11 kV11 dc11 pm11 cd11 ct11 oc12 kV12 dc12 pm12 cd12 ct12 oc13 kV13 dc13 pm13 cd13 ct13 oc14 kV14 dc14 pm14 cd14 ct14 oc15 kV15 dc15 pm15 cd15 ct15 oc16 kV16 dc16 pm16 cd16 ct16 oc17 kV17 dc17 pm17 cd17 ct17 oc18 kV18 dc18 pm18 cd18 ct18 oc19 kV19 dc19 pm19 cd19 ct19 oc20 kV20 dc20 pm20 cd20 ct20 oc21 kV21 dc21 pm21 cd21 ct21 oc22 kV22 dc22 pm22 cd22 ct22 oc23 kV23 dc23 pm23 cd23 ct23 oc24 kV24 dc24 pm24 cd24 ct24 oc25 kV25 dc25 pm25 cd25 ct25 oc26 kV26 dc26 pm26 cd26 ct26 oc27 kV27 dc27 pm27 cd27 ct27 oc28 kV28 dc28 pm28 cd28 ct28 oc29 kV29 dc29 pm29 cd29 ct29 oc30 kV30 dc30 pm30 cd30 ct30 oc31 kV31 dc31 pm31 cd31 ct31 oc32 kV32 dc32 pm32 cd32 ct32 : Value}
    (a0 : PySem.W.nsIn K mainGlobals "measure" = some (some (.ref f0))) (l0 : K.lookup f0 = some ⟨oc0, od0, .func (PySem.W.fnOf "measure" "measure" (defArgs sMeasure) (defBody sMeasure) (defScope sMeasure) .none kV0 dc0 pm0 an0 cd0 ct0), sl0⟩) (c0 : PySem.W.codeIn K cd0 "measure" = true) (k0 : PySem.W.keepIn K (.ref f0) = true)
    (a1 : PySem.W.nsIn K mainGlobals "floor_root" = some (some (.ref f1))) (l1 : K.lookup f1 = some ⟨oc1, od1, .func (PySem.W.fnOf "floor_root" "floor_root" (defArgs sFloorRoot) (defBody sFloorRoot) (defScope sFloorRoot) .none kV1 dc1 pm1 an1 cd1 ct1), sl1⟩) (c1 : PySem.W.codeIn K cd1 "floor_root" = true) (k1 : PySem.W.keepIn K (.ref f1) = true)
    (a2 : PySem.W.nsIn K mainGlobals "is_square" = some (some (.ref f2))) (l2 : K.lookup f2 = some ⟨oc2, od2, .func (PySem.W.fnOf "is_square" "is_square" (defArgs sIsSquare) (defBody sIsSquare) (defScope sIsSquare) .none kV2 dc2 pm2 an2 cd2 ct2), sl2⟩) (c2 : PySem.W.codeIn K cd2 "is_square" = true) (k2 : PySem.W.keepIn K (.ref f2) = true)
    (a3 : PySem.W.nsIn K mainGlobals "discriminant" = some (some (.ref f3))) (l3 : K.lookup f3 = some ⟨oc3, od3, .func (PySem.W.fnOf "discriminant" "discriminant" (defArgs sDiscriminant) (defBody sDiscriminant) (defScope sDiscriminant) .none kV3 dc3 pm3 an3 cd3 ct3), sl3⟩) (c3 : PySem.W.codeIn K cd3 "discriminant" = true) (k3 : PySem.W.keepIn K (.ref f3) = true)
    (a4 : PySem.W.nsIn K mainGlobals "content" = some (some (.ref f4))) (l4 : K.lookup f4 = some ⟨oc4, od4, .func (PySem.W.fnOf "content" "content" (defArgs sContent) (defBody sContent) (defScope sContent) .none kV4 dc4 pm4 an4 cd4 ct4), sl4⟩) (c4 : PySem.W.codeIn K cd4 "content" = true) (k4 : PySem.W.keepIn K (.ref f4) = true)
    (a5 : PySem.W.nsIn K mainGlobals "divided" = some (some (.ref f5))) (l5 : K.lookup f5 = some ⟨oc5, od5, .func (PySem.W.fnOf "divided" "divided" (defArgs sDivided) (defBody sDivided) (defScope sDivided) .none kV5 dc5 pm5 an5 cd5 ct5), sl5⟩) (c5 : PySem.W.codeIn K cd5 "divided" = true) (k5 : PySem.W.keepIn K (.ref f5) = true)
    (a6 : PySem.W.nsIn K mainGlobals "unit_change" = some (some (.ref f6))) (l6 : K.lookup f6 = some ⟨oc6, od6, .func (PySem.W.fnOf "unit_change" "unit_change" (defArgs sUnitChange) (defBody sUnitChange) (defScope sUnitChange) .none kV6 dc6 pm6 an6 cd6 ct6), sl6⟩) (c6 : PySem.W.codeIn K cd6 "unit_change" = true) (k6 : PySem.W.keepIn K (.ref f6) = true)
    (a7 : PySem.W.nsIn K mainGlobals "expand" = some (some (.ref f7))) (l7 : K.lookup f7 = some ⟨oc7, od7, .func (PySem.W.fnOf "expand" "expand" (defArgs sExpand) (defBody sExpand) (defScope sExpand) .none kV7 dc7 pm7 an7 cd7 ct7), sl7⟩) (c7 : PySem.W.codeIn K cd7 "expand" = true) (k7 : PySem.W.keepIn K (.ref f7) = true)
    (a8 : PySem.W.nsIn K mainGlobals "_part_of" = some (some (.ref f8))) (l8 : K.lookup f8 = some ⟨oc8, od8, .func (PySem.W.fnOf "_part_of" "_part_of" (defArgs sPartOf) (defBody sPartOf) (defScope sPartOf) .none kV8 dc8 pm8 an8 cd8 ct8), sl8⟩) (c8 : PySem.W.codeIn K cd8 "_part_of" = true) (k8 : PySem.W.keepIn K (.ref f8) = true)
    (a9 : PySem.W.nsIn K mainGlobals "convergents" = some (some (.ref f9))) (l9 : K.lookup f9 = some ⟨oc9, od9, .func (PySem.W.fnOf "convergents" "convergents" (defArgs sConvergents) (defBody sConvergents) (defScope sConvergents) .none kV9 dc9 pm9 an9 cd9 ct9), sl9⟩) (c9 : PySem.W.codeIn K cd9 "convergents" = true) (k9 : PySem.W.keepIn K (.ref f9) = true)
    (a10 : PySem.W.nsIn K mainGlobals "part_at" = some (some (.ref f10))) (l10 : K.lookup f10 = some ⟨oc10, od10, .func (PySem.W.fnOf "part_at" "part_at" (defArgs sPartAt) (defBody sPartAt) (defScope sPartAt) .none kV10 dc10 pm10 an10 cd10 ct10), sl10⟩) (c10 : PySem.W.codeIn K cd10 "part_at" = true) (k10 : PySem.W.keepIn K (.ref f10) = true)
    (a11 : PySem.W.nsIn K mainGlobals "even_turn" = some (some (.ref f11))) (l11 : K.lookup f11 = some ⟨oc11, od11, .func (PySem.W.fnOf "even_turn" "even_turn" (defArgs sEvenTurn) (defBody sEvenTurn) (defScope sEvenTurn) .none kV11 dc11 pm11 an11 cd11 ct11), sl11⟩) (c11 : PySem.W.codeIn K cd11 "even_turn" = true) (k11 : PySem.W.keepIn K (.ref f11) = true)
    (a12 : PySem.W.nsIn K mainGlobals "least_unit" = some (some (.ref f12))) (l12 : K.lookup f12 = some ⟨oc12, od12, .func (PySem.W.fnOf "least_unit" "least_unit" (defArgs sLeastUnit) (defBody sLeastUnit) (defScope sLeastUnit) .none kV12 dc12 pm12 an12 cd12 ct12), sl12⟩) (c12 : PySem.W.codeIn K cd12 "least_unit" = true) (k12 : PySem.W.keepIn K (.ref f12) = true)
    (a13 : PySem.W.nsIn K mainGlobals "self_change" = some (some (.ref f13))) (l13 : K.lookup f13 = some ⟨oc13, od13, .func (PySem.W.fnOf "self_change" "self_change" (defArgs sSelfChange) (defBody sSelfChange) (defScope sSelfChange) .none kV13 dc13 pm13 an13 cd13 ct13), sl13⟩) (c13 : PySem.W.codeIn K cd13 "self_change" = true) (k13 : PySem.W.keepIn K (.ref f13) = true)
    (a14 : PySem.W.nsIn K mainGlobals "_law_cell" = some (some (.ref f14))) (l14 : K.lookup f14 = some ⟨oc14, od14, .func (PySem.W.fnOf "_law_cell" "_law_cell" (defArgs sLawCell) (defBody sLawCell) (defScope sLawCell) .none kV14 dc14 pm14 an14 cd14 ct14), sl14⟩) (c14 : PySem.W.codeIn K cd14 "_law_cell" = true) (k14 : PySem.W.keepIn K (.ref f14) = true)
    (a15 : PySem.W.nsIn K mainGlobals "_law_numbers" = some (some (.ref f15))) (l15 : K.lookup f15 = some ⟨oc15, od15, .func (PySem.W.fnOf "_law_numbers" "_law_numbers" (defArgs sLawNumbers) (defBody sLawNumbers) (defScope sLawNumbers) .none kV15 dc15 pm15 an15 cd15 ct15), sl15⟩) (c15 : PySem.W.codeIn K cd15 "_law_numbers" = true) (k15 : PySem.W.keepIn K (.ref f15) = true)
    (a16 : PySem.W.nsIn K mainGlobals "_law_state" = some (some (.ref f16))) (l16 : K.lookup f16 = some ⟨oc16, od16, .func (PySem.W.fnOf "_law_state" "_law_state" (defArgs sLawState) (defBody sLawState) (defScope sLawState) .none kV16 dc16 pm16 an16 cd16 ct16), sl16⟩) (c16 : PySem.W.codeIn K cd16 "_law_state" = true) (k16 : PySem.W.keepIn K (.ref f16) = true)
    (a17 : PySem.W.nsIn K mainGlobals "_law_next" = some (some (.ref f17))) (l17 : K.lookup f17 = some ⟨oc17, od17, .func (PySem.W.fnOf "_law_next" "_law_next" (defArgs sLawNext) (defBody sLawNext) (defScope sLawNext) .none kV17 dc17 pm17 an17 cd17 ct17), sl17⟩) (c17 : PySem.W.codeIn K cd17 "_law_next" = true) (k17 : PySem.W.keepIn K (.ref f17) = true)
    (a18 : PySem.W.nsIn K mainGlobals "_law_wide" = some (some (.ref f18))) (l18 : K.lookup f18 = some ⟨oc18, od18, .func (PySem.W.fnOf "_law_wide" "_law_wide" (defArgs sLawWide) (defBody sLawWide) (defScope sLawWide) .none kV18 dc18 pm18 an18 cd18 ct18), sl18⟩) (c18 : PySem.W.codeIn K cd18 "_law_wide" = true) (k18 : PySem.W.keepIn K (.ref f18) = true)
    (a19 : PySem.W.nsIn K mainGlobals "_law_root" = some (some (.ref f19))) (l19 : K.lookup f19 = some ⟨oc19, od19, .func (PySem.W.fnOf "_law_root" "_law_root" (defArgs sLawRoot) (defBody sLawRoot) (defScope sLawRoot) .none kV19 dc19 pm19 an19 cd19 ct19), sl19⟩) (c19 : PySem.W.codeIn K cd19 "_law_root" = true) (k19 : PySem.W.keepIn K (.ref f19) = true)
    (a20 : PySem.W.nsIn K mainGlobals "_law_measure" = some (some (.ref f20))) (l20 : K.lookup f20 = some ⟨oc20, od20, .func (PySem.W.fnOf "_law_measure" "_law_measure" (defArgs sLawMeasure) (defBody sLawMeasure) (defScope sLawMeasure) .none kV20 dc20 pm20 an20 cd20 ct20), sl20⟩) (c20 : PySem.W.codeIn K cd20 "_law_measure" = true) (k20 : PySem.W.keepIn K (.ref f20) = true)
    (a21 : PySem.W.nsIn K mainGlobals "_law_mul" = some (some (.ref f21))) (l21 : K.lookup f21 = some ⟨oc21, od21, .func (PySem.W.fnOf "_law_mul" "_law_mul" (defArgs sLawMul) (defBody sLawMul) (defScope sLawMul) .none kV21 dc21 pm21 an21 cd21 ct21), sl21⟩) (c21 : PySem.W.codeIn K cd21 "_law_mul" = true) (k21 : PySem.W.keepIn K (.ref f21) = true)
    (a22 : PySem.W.nsIn K mainGlobals "_law_worth" = some (some (.ref f22))) (l22 : K.lookup f22 = some ⟨oc22, od22, .func (PySem.W.fnOf "_law_worth" "_law_worth" (defArgs sLawWorth) (defBody sLawWorth) (defScope sLawWorth) .none kV22 dc22 pm22 an22 cd22 ct22), sl22⟩) (c22 : PySem.W.codeIn K cd22 "_law_worth" = true) (k22 : PySem.W.keepIn K (.ref f22) = true)
    (a23 : PySem.W.nsIn K mainGlobals "_law_act" = some (some (.ref f23))) (l23 : K.lookup f23 = some ⟨oc23, od23, .func (PySem.W.fnOf "_law_act" "_law_act" (defArgs sLawAct) (defBody sLawAct) (defScope sLawAct) .none kV23 dc23 pm23 an23 cd23 ct23), sl23⟩) (c23 : PySem.W.codeIn K cd23 "_law_act" = true) (k23 : PySem.W.keepIn K (.ref f23) = true)
    (a24 : PySem.W.nsIn K mainGlobals "_law_change" = some (some (.ref f24))) (l24 : K.lookup f24 = some ⟨oc24, od24, .func (PySem.W.fnOf "_law_change" "_law_change" (defArgs sLawChange) (defBody sLawChange) (defScope sLawChange) .none kV24 dc24 pm24 an24 cd24 ct24), sl24⟩) (c24 : PySem.W.codeIn K cd24 "_law_change" = true) (k24 : PySem.W.keepIn K (.ref f24) = true)
    (a25 : PySem.W.nsIn K mainGlobals "_law_square" = some (some (.ref f25))) (l25 : K.lookup f25 = some ⟨oc25, od25, .func (PySem.W.fnOf "_law_square" "_law_square" (defArgs sLawSquare) (defBody sLawSquare) (defScope sLawSquare) .none kV25 dc25 pm25 an25 cd25 ct25), sl25⟩) (c25 : PySem.W.codeIn K cd25 "_law_square" = true) (k25 : PySem.W.keepIn K (.ref f25) = true)
    (a26 : PySem.W.nsIn K mainGlobals "_law_kind" = some (some (.ref f26))) (l26 : K.lookup f26 = some ⟨oc26, od26, .func (PySem.W.fnOf "_law_kind" "_law_kind" (defArgs sLawKind) (defBody sLawKind) (defScope sLawKind) .none kV26 dc26 pm26 an26 cd26 ct26), sl26⟩) (c26 : PySem.W.codeIn K cd26 "_law_kind" = true) (k26 : PySem.W.keepIn K (.ref f26) = true)
    (a27 : PySem.W.nsIn K mainGlobals "_law_split" = some (some (.ref f27))) (l27 : K.lookup f27 = some ⟨oc27, od27, .func (PySem.W.fnOf "_law_split" "_law_split" (defArgs sLawSplit) (defBody sLawSplit) (defScope sLawSplit) .none kV27 dc27 pm27 an27 cd27 ct27), sl27⟩) (c27 : PySem.W.codeIn K cd27 "_law_split" = true) (k27 : PySem.W.keepIn K (.ref f27) = true)
    (a28 : PySem.W.nsIn K mainGlobals "_law_flat" = some (some (.ref f28))) (l28 : K.lookup f28 = some ⟨oc28, od28, .func (PySem.W.fnOf "_law_flat" "_law_flat" (defArgs sLawFlat) (defBody sLawFlat) (defScope sLawFlat) .none kV28 dc28 pm28 an28 cd28 ct28), sl28⟩) (c28 : PySem.W.codeIn K cd28 "_law_flat" = true) (k28 : PySem.W.keepIn K (.ref f28) = true)
    (a29 : PySem.W.nsIn K mainGlobals "_law_form" = some (some (.ref f29))) (l29 : K.lookup f29 = some ⟨oc29, od29, .func (PySem.W.fnOf "_law_form" "_law_form" (defArgs sLawForm) (defBody sLawForm) (defScope sLawForm) .none kV29 dc29 pm29 an29 cd29 ct29), sl29⟩) (c29 : PySem.W.codeIn K cd29 "_law_form" = true) (k29 : PySem.W.keepIn K (.ref f29) = true)
    (a30 : PySem.W.nsIn K mainGlobals "_law_pell" = some (some (.ref f30))) (l30 : K.lookup f30 = some ⟨oc30, od30, .func (PySem.W.fnOf "_law_pell" "_law_pell" (defArgs sLawPell) (defBody sLawPell) (defScope sLawPell) .none kV30 dc30 pm30 an30 cd30 ct30), sl30⟩) (c30 : PySem.W.codeIn K cd30 "_law_pell" = true) (k30 : PySem.W.keepIn K (.ref f30) = true)
    (a31 : PySem.W.nsIn K mainGlobals "_law_least" = some (some (.ref f31))) (l31 : K.lookup f31 = some ⟨oc31, od31, .func (PySem.W.fnOf "_law_least" "_law_least" (defArgs sLawLeast) (defBody sLawLeast) (defScope sLawLeast) .none kV31 dc31 pm31 an31 cd31 ct31), sl31⟩) (c31 : PySem.W.codeIn K cd31 "_law_least" = true) (k31 : PySem.W.keepIn K (.ref f31) = true)
    (a32 : PySem.W.nsIn K mainGlobals "law" = some (some (.ref f32))) (l32 : K.lookup f32 = some ⟨oc32, od32, .func (PySem.W.fnOf "law" "law" (defArgs sLaw) (defBody sLaw) (defScope sLaw) .none kV32 dc32 pm32 an32 cd32 ct32), sl32⟩) (c32 : PySem.W.codeIn K cd32 "law" = true) (k32 : PySem.W.keepIn K (.ref f32) = true)
    (z0 : PySem.W.nsIn K mainGlobals "abs" = some none)
    (z1 : PySem.W.nsIn K mainGlobals "int" = some none)
    (z2 : PySem.W.nsIn K mainGlobals "len" = some none)
    (z3 : PySem.W.nsIn K mainGlobals "range" = some none)
    (z4 : PySem.W.nsIn K mainGlobals "tuple" = some none)
    (i0 : PySem.W.nsIn K mainGlobals "gcd" = some (some (.builtin "math.gcd")))
    (i1 : PySem.W.nsIn K mainGlobals "isqrt" = some (some (.builtin "math.isqrt")))
    : ∃ fd : FuncData, (∀ (s : Shared) (v : Value), BindsTo s fd ⟨[v], []⟩ [("script", v)]) ∧ ∀ base : Heap, K.In base → base.Ns mainGlobals mg → FnOk l.prog w K mg base CX0 7 f fd ["script"] (spLaw K) := by
  have e := hfa.symm.trans (PySem.W.mg_of X G a32)
  cases e
  have F0 := fun_mk (st := sMeasure) l0 c0 k0
  have F1 := fun_mk (st := sFloorRoot) l1 c1 k1
  have F2 := fun_mk (st := sIsSquare) l2 c2 k2
  have F3 := fun_mk (st := sDiscriminant) l3 c3 k3
  have F4 := fun_mk (st := sContent) l4 c4 k4
  have F5 := fun_mk (st := sDivided) l5 c5 k5
  have F6 := fun_mk (st := sUnitChange) l6 c6 k6
  have F7 := fun_mk (st := sExpand) l7 c7 k7
  have F8 := fun_mk (st := sPartOf) l8 c8 k8
  have F9 := fun_mk (st := sConvergents) l9 c9 k9
  have F10 := fun_mk (st := sPartAt) l10 c10 k10
  have F11 := fun_mk (st := sEvenTurn) l11 c11 k11
  have F12 := fun_mk (st := sLeastUnit) l12 c12 k12
  have F13 := fun_mk (st := sSelfChange) l13 c13 k13
  have F14 := fun_mk (st := sLawCell) l14 c14 k14
  have F15 := fun_mk (st := sLawNumbers) l15 c15 k15
  have F16 := fun_mk (st := sLawState) l16 c16 k16
  have F17 := fun_mk (st := sLawNext) l17 c17 k17
  have F18 := fun_mk (st := sLawWide) l18 c18 k18
  have F19 := fun_mk (st := sLawRoot) l19 c19 k19
  have F20 := fun_mk (st := sLawMeasure) l20 c20 k20
  have F21 := fun_mk (st := sLawMul) l21 c21 k21
  have F22 := fun_mk (st := sLawWorth) l22 c22 k22
  have F23 := fun_mk (st := sLawAct) l23 c23 k23
  have F24 := fun_mk (st := sLawChange) l24 c24 k24
  have F25 := fun_mk (st := sLawSquare) l25 c25 k25
  have F26 := fun_mk (st := sLawKind) l26 c26 k26
  have F27 := fun_mk (st := sLawSplit) l27 c27 k27
  have F28 := fun_mk (st := sLawFlat) l28 c28 k28
  have F29 := fun_mk (st := sLawForm) l29 c29 k29
  have F30 := fun_mk (st := sLawPell) l30 c30 k30
  have F31 := fun_mk (st := sLawLeast) l31 c31 k31
  have F32 := fun_mk (st := sLaw) l32 c32 k32
  have b0 := F0.binds (ps := ["numbers"]) fun _ _ _ _ _ _ us hl => match us, hl with | [_], _ => rfl
  have b1 := F1.binds (ps := ["n"]) fun _ _ _ _ _ _ us hl => match us, hl with | [_], _ => rfl
  have b2 := F2.binds (ps := ["n"]) fun _ _ _ _ _ _ us hl => match us, hl with | [_], _ => rfl
  have b3 := F3.binds (ps := ["form"]) fun _ _ _ _ _ _ us hl => match us, hl with | [_], _ => rfl
  have b4 := F4.binds (ps := ["form"]) fun _ _ _ _ _ _ us hl => match us, hl with | [_], _ => rfl
  have b5 := F5.binds (ps := ["form", "number"]) fun _ _ _ _ _ _ us hl => match us, hl with | [_, _], _ => rfl
  have b6 := F6.binds (ps := ["form", "t", "u"]) fun _ _ _ _ _ _ us hl => match us, hl with | [_, _, _], _ => rfl
  have b7 := F7.binds (ps := ["p", "q", "d"]) fun _ _ _ _ _ _ us hl => match us, hl with | [_, _, _], _ => rfl
  have b8 := F8.binds (ps := ["p", "q", "root"]) fun _ _ _ _ _ _ us hl => match us, hl with | [_, _, _], _ => rfl
  have b9 := F9.binds (ps := ["parts"]) fun _ _ _ _ _ _ us hl => match us, hl with | [_], _ => rfl
  have b10 := F10.binds (ps := ["expansion", "index"]) fun _ _ _ _ _ _ us hl => match us, hl with | [_, _], _ => rfl
  have b11 := F11.binds (ps := ["p", "q", "d"]) fun _ _ _ _ _ _ us hl => match us, hl with | [_, _, _], _ => rfl
  have b12 := F12.binds (ps := ["d"]) fun _ _ _ _ _ _ us hl => match us, hl with | [_], _ => rfl
  have b13 := F13.binds (ps := ["form"]) fun _ _ _ _ _ _ us hl => match us, hl with | [_], _ => rfl
  have b14 := F14.binds (ps := ["script", "k"]) fun _ _ _ _ _ _ us hl => match us, hl with | [_, _], _ => rfl
  have b15 := F15.binds (ps := ["cell", "many"]) fun _ _ _ _ _ _ us hl => match us, hl with | [_, _], _ => rfl
  have b16 := F16.binds (ps := ["script"]) fun _ _ _ _ _ _ us hl => match us, hl with | [_], _ => rfl
  have b17 := F17.binds (ps := ["state", "many"]) fun _ _ _ _ _ _ us hl => match us, hl with | [_, _], _ => rfl
  have b18 := F18.binds (ps := ["state", "many"]) fun _ _ _ _ _ _ us hl => match us, hl with | [_, _], _ => rfl
  have b19 := F19.binds (ps := ["n"]) fun _ _ _ _ _ _ us hl => match us, hl with | [_], _ => rfl
  have b20 := F20.binds (ps := ["a", "b"]) fun _ _ _ _ _ _ us hl => match us, hl with | [_, _], _ => rfl
  have b21 := F21.binds (ps := ["m", "n"]) fun _ _ _ _ _ _ us hl => match us, hl with | [_, _], _ => rfl
  have b22 := F22.binds (ps := ["form", "x", "y"]) fun _ _ _ _ _ _ us hl => match us, hl with | [_, _, _], _ => rfl
  have b23 := F23.binds (ps := ["form", "m"]) fun _ _ _ _ _ _ us hl => match us, hl with | [_, _], _ => rfl
  have b24 := F24.binds (ps := ["state", "many"]) fun _ _ _ _ _ _ us hl => match us, hl with | [_, _], _ => rfl
  have b25 := F25.binds (ps := ["n"]) fun _ _ _ _ _ _ us hl => match us, hl with | [_], _ => rfl
  have b26 := F26.binds (ps := ["form"]) fun _ _ _ _ _ _ us hl => match us, hl with | [_], _ => rfl
  have b27 := F27.binds (ps := ["state"]) fun _ _ _ _ _ _ us hl => match us, hl with | [_], _ => rfl
  have b28 := F28.binds (ps := ["state"]) fun _ _ _ _ _ _ us hl => match us, hl with | [_], _ => rfl
  have b29 := F29.binds (ps := ["state", "sort"]) fun _ _ _ _ _ _ us hl => match us, hl with | [_, _], _ => rfl
  have b30 := F30.binds (ps := ["d"]) fun _ _ _ _ _ _ us hl => match us, hl with | [_], _ => rfl
  have b31 := F31.binds (ps := ["d"]) fun _ _ _ _ _ _ us hl => match us, hl with | [_], _ => rfl
  have b32 := F32.binds (ps := ["script"]) fun _ _ _ _ _ _ us hl => match us, hl with | [_], _ => rfl
  let fa : Nat → Addr := fun i => [f0, f1, f2, f3, f4, f5, f6, f7, f8, f9, f10, f11, f12, f13, f14, f15, f16, f17, f18, f19, f20, f21, f22, f23, f24, f25, f26, f27, f28, f29, f30, f31, f].getD i 0
  let fd : Nat → FuncData := fun i => match i with
    | 0 => PySem.W.fnOf "measure" "measure" (defArgs sMeasure) (defBody sMeasure) (defScope sMeasure) .none kV0 dc0 pm0 an0 cd0 ct0
    | 1 => PySem.W.fnOf "floor_root" "floor_root" (defArgs sFloorRoot) (defBody sFloorRoot) (defScope sFloorRoot) .none kV1 dc1 pm1 an1 cd1 ct1
    | 2 => PySem.W.fnOf "is_square" "is_square" (defArgs sIsSquare) (defBody sIsSquare) (defScope sIsSquare) .none kV2 dc2 pm2 an2 cd2 ct2
    | 3 => PySem.W.fnOf "discriminant" "discriminant" (defArgs sDiscriminant) (defBody sDiscriminant) (defScope sDiscriminant) .none kV3 dc3 pm3 an3 cd3 ct3
    | 4 => PySem.W.fnOf "content" "content" (defArgs sContent) (defBody sContent) (defScope sContent) .none kV4 dc4 pm4 an4 cd4 ct4
    | 5 => PySem.W.fnOf "divided" "divided" (defArgs sDivided) (defBody sDivided) (defScope sDivided) .none kV5 dc5 pm5 an5 cd5 ct5
    | 6 => PySem.W.fnOf "unit_change" "unit_change" (defArgs sUnitChange) (defBody sUnitChange) (defScope sUnitChange) .none kV6 dc6 pm6 an6 cd6 ct6
    | 7 => PySem.W.fnOf "expand" "expand" (defArgs sExpand) (defBody sExpand) (defScope sExpand) .none kV7 dc7 pm7 an7 cd7 ct7
    | 8 => PySem.W.fnOf "_part_of" "_part_of" (defArgs sPartOf) (defBody sPartOf) (defScope sPartOf) .none kV8 dc8 pm8 an8 cd8 ct8
    | 9 => PySem.W.fnOf "convergents" "convergents" (defArgs sConvergents) (defBody sConvergents) (defScope sConvergents) .none kV9 dc9 pm9 an9 cd9 ct9
    | 10 => PySem.W.fnOf "part_at" "part_at" (defArgs sPartAt) (defBody sPartAt) (defScope sPartAt) .none kV10 dc10 pm10 an10 cd10 ct10
    | 11 => PySem.W.fnOf "even_turn" "even_turn" (defArgs sEvenTurn) (defBody sEvenTurn) (defScope sEvenTurn) .none kV11 dc11 pm11 an11 cd11 ct11
    | 12 => PySem.W.fnOf "least_unit" "least_unit" (defArgs sLeastUnit) (defBody sLeastUnit) (defScope sLeastUnit) .none kV12 dc12 pm12 an12 cd12 ct12
    | 13 => PySem.W.fnOf "self_change" "self_change" (defArgs sSelfChange) (defBody sSelfChange) (defScope sSelfChange) .none kV13 dc13 pm13 an13 cd13 ct13
    | 14 => PySem.W.fnOf "_law_cell" "_law_cell" (defArgs sLawCell) (defBody sLawCell) (defScope sLawCell) .none kV14 dc14 pm14 an14 cd14 ct14
    | 15 => PySem.W.fnOf "_law_numbers" "_law_numbers" (defArgs sLawNumbers) (defBody sLawNumbers) (defScope sLawNumbers) .none kV15 dc15 pm15 an15 cd15 ct15
    | 16 => PySem.W.fnOf "_law_state" "_law_state" (defArgs sLawState) (defBody sLawState) (defScope sLawState) .none kV16 dc16 pm16 an16 cd16 ct16
    | 17 => PySem.W.fnOf "_law_next" "_law_next" (defArgs sLawNext) (defBody sLawNext) (defScope sLawNext) .none kV17 dc17 pm17 an17 cd17 ct17
    | 18 => PySem.W.fnOf "_law_wide" "_law_wide" (defArgs sLawWide) (defBody sLawWide) (defScope sLawWide) .none kV18 dc18 pm18 an18 cd18 ct18
    | 19 => PySem.W.fnOf "_law_root" "_law_root" (defArgs sLawRoot) (defBody sLawRoot) (defScope sLawRoot) .none kV19 dc19 pm19 an19 cd19 ct19
    | 20 => PySem.W.fnOf "_law_measure" "_law_measure" (defArgs sLawMeasure) (defBody sLawMeasure) (defScope sLawMeasure) .none kV20 dc20 pm20 an20 cd20 ct20
    | 21 => PySem.W.fnOf "_law_mul" "_law_mul" (defArgs sLawMul) (defBody sLawMul) (defScope sLawMul) .none kV21 dc21 pm21 an21 cd21 ct21
    | 22 => PySem.W.fnOf "_law_worth" "_law_worth" (defArgs sLawWorth) (defBody sLawWorth) (defScope sLawWorth) .none kV22 dc22 pm22 an22 cd22 ct22
    | 23 => PySem.W.fnOf "_law_act" "_law_act" (defArgs sLawAct) (defBody sLawAct) (defScope sLawAct) .none kV23 dc23 pm23 an23 cd23 ct23
    | 24 => PySem.W.fnOf "_law_change" "_law_change" (defArgs sLawChange) (defBody sLawChange) (defScope sLawChange) .none kV24 dc24 pm24 an24 cd24 ct24
    | 25 => PySem.W.fnOf "_law_square" "_law_square" (defArgs sLawSquare) (defBody sLawSquare) (defScope sLawSquare) .none kV25 dc25 pm25 an25 cd25 ct25
    | 26 => PySem.W.fnOf "_law_kind" "_law_kind" (defArgs sLawKind) (defBody sLawKind) (defScope sLawKind) .none kV26 dc26 pm26 an26 cd26 ct26
    | 27 => PySem.W.fnOf "_law_split" "_law_split" (defArgs sLawSplit) (defBody sLawSplit) (defScope sLawSplit) .none kV27 dc27 pm27 an27 cd27 ct27
    | 28 => PySem.W.fnOf "_law_flat" "_law_flat" (defArgs sLawFlat) (defBody sLawFlat) (defScope sLawFlat) .none kV28 dc28 pm28 an28 cd28 ct28
    | 29 => PySem.W.fnOf "_law_form" "_law_form" (defArgs sLawForm) (defBody sLawForm) (defScope sLawForm) .none kV29 dc29 pm29 an29 cd29 ct29
    | 30 => PySem.W.fnOf "_law_pell" "_law_pell" (defArgs sLawPell) (defBody sLawPell) (defScope sLawPell) .none kV30 dc30 pm30 an30 cd30 ct30
    | 31 => PySem.W.fnOf "_law_least" "_law_least" (defArgs sLawLeast) (defBody sLawLeast) (defScope sLawLeast) .none kV31 dc31 pm31 an31 cd31 ct31
    | _ => PySem.W.fnOf "law" "law" (defArgs sLaw) (defBody sLaw) (defScope sLaw) .none kV32 dc32 pm32 an32 cd32 ct32
  have T : Txt K mg fa fd := {
    F_measure := F0, B_measure := b0, G_measure := PySem.W.mg_of X G a0,
    F_floor_root := F1, B_floor_root := b1, G_floor_root := PySem.W.mg_of X G a1,
    F_is_square := F2, B_is_square := b2, G_is_square := PySem.W.mg_of X G a2,
    F_discriminant := F3, B_discriminant := b3, G_discriminant := PySem.W.mg_of X G a3,
    F_content := F4, B_content := b4, G_content := PySem.W.mg_of X G a4,
    F_divided := F5, B_divided := b5, G_divided := PySem.W.mg_of X G a5,
    F_unit_change := F6, B_unit_change := b6, G_unit_change := PySem.W.mg_of X G a6,
    F_expand := F7, B_expand := b7, G_expand := PySem.W.mg_of X G a7,
    F__part_of := F8, B__part_of := b8, G__part_of := PySem.W.mg_of X G a8,
    F_convergents := F9, B_convergents := b9, G_convergents := PySem.W.mg_of X G a9,
    F_part_at := F10, B_part_at := b10, G_part_at := PySem.W.mg_of X G a10,
    F_even_turn := F11, B_even_turn := b11, G_even_turn := PySem.W.mg_of X G a11,
    F_least_unit := F12, B_least_unit := b12, G_least_unit := PySem.W.mg_of X G a12,
    F_self_change := F13, B_self_change := b13, G_self_change := PySem.W.mg_of X G a13,
    F__law_cell := F14, B__law_cell := b14, G__law_cell := PySem.W.mg_of X G a14,
    F__law_numbers := F15, B__law_numbers := b15, G__law_numbers := PySem.W.mg_of X G a15,
    F__law_state := F16, B__law_state := b16, G__law_state := PySem.W.mg_of X G a16,
    F__law_next := F17, B__law_next := b17, G__law_next := PySem.W.mg_of X G a17,
    F__law_wide := F18, B__law_wide := b18, G__law_wide := PySem.W.mg_of X G a18,
    F__law_root := F19, B__law_root := b19, G__law_root := PySem.W.mg_of X G a19,
    F__law_measure := F20, B__law_measure := b20, G__law_measure := PySem.W.mg_of X G a20,
    F__law_mul := F21, B__law_mul := b21, G__law_mul := PySem.W.mg_of X G a21,
    F__law_worth := F22, B__law_worth := b22, G__law_worth := PySem.W.mg_of X G a22,
    F__law_act := F23, B__law_act := b23, G__law_act := PySem.W.mg_of X G a23,
    F__law_change := F24, B__law_change := b24, G__law_change := PySem.W.mg_of X G a24,
    F__law_square := F25, B__law_square := b25, G__law_square := PySem.W.mg_of X G a25,
    F__law_kind := F26, B__law_kind := b26, G__law_kind := PySem.W.mg_of X G a26,
    F__law_split := F27, B__law_split := b27, G__law_split := PySem.W.mg_of X G a27,
    F__law_flat := F28, B__law_flat := b28, G__law_flat := PySem.W.mg_of X G a28,
    F__law_form := F29, B__law_form := b29, G__law_form := PySem.W.mg_of X G a29,
    F__law_pell := F30, B__law_pell := b30, G__law_pell := PySem.W.mg_of X G a30,
    F__law_least := F31, B__law_least := b31, G__law_least := PySem.W.mg_of X G a31,
    F_law := F32, B_law := b32, G_law := PySem.W.mg_of X G a32,
    m_abs := PySem.W.mg_none_of X G z0, m_int := PySem.W.mg_none_of X G z1, m_len := PySem.W.mg_none_of X G z2, m_range := PySem.W.mg_none_of X G z3, m_tuple := PySem.W.mg_none_of X G z4, g_gcd := PySem.W.mg_of X G i0, g_isqrt := PySem.W.mg_of X G i1 }
  exact ⟨fd 32, fun s v => .of_eq rfl, fun base _ _ => okLaw T⟩
end Wc
open PySem PySem.W PyProof.Rows
set_option maxHeartbeats 0 in
theorem PySem.Challenge.cw_wholeconic_k13_least_units_holds : PySem.Challenge.rw_wholeconic_k13_least_units.Holds := by
  w_on; o_law; k_head; (case hw => w_witness2)
  k_fill
  refine L2.walk_of (l := PySem.Challenge.rw_wholeconic_k13_least_units) (n := 63) (k := 7) (x := "script") (CX := fun _ => L2.CX0) (sp := fun w => Wc.spLaw _) rfl (by decide) rfl ⟨rfl, by decide, by decide⟩ (fun w h Y => PySem.W.kIn_of Y) ?F (fun _ _ a ns hl _ hS => ⟨a, ns, rfl, hS, hl, fun _ => rfl⟩) (fun _ _ _ _ _ h => h)
  case F =>
    intro w mg fa h KX G hmg
    refine' Wc.all_mk KX G hmg ?a0 ?l0 ?c0 ?k0 ?a1 ?l1 ?c1 ?k1 ?a2 ?l2 ?c2 ?k2 ?a3 ?l3 ?c3 ?k3 ?a4 ?l4 ?c4 ?k4 ?a5 ?l5 ?c5 ?k5 ?a6 ?l6 ?c6 ?k6 ?a7 ?l7 ?c7 ?k7 ?a8 ?l8 ?c8 ?k8 ?a9 ?l9 ?c9 ?k9 ?a10 ?l10 ?c10 ?k10 ?a11 ?l11 ?c11 ?k11 ?a12 ?l12 ?c12 ?k12 ?a13 ?l13 ?c13 ?k13 ?a14 ?l14 ?c14 ?k14 ?a15 ?l15 ?c15 ?k15 ?a16 ?l16 ?c16 ?k16 ?a17 ?l17 ?c17 ?k17 ?a18 ?l18 ?c18 ?k18 ?a19 ?l19 ?c19 ?k19 ?a20 ?l20 ?c20 ?k20 ?a21 ?l21 ?c21 ?k21 ?a22 ?l22 ?c22 ?k22 ?a23 ?l23 ?c23 ?k23 ?a24 ?l24 ?c24 ?k24 ?a25 ?l25 ?c25 ?k25 ?a26 ?l26 ?c26 ?k26 ?a27 ?l27 ?c27 ?k27 ?a28 ?l28 ?c28 ?k28 ?a29 ?l29 ?c29 ?k29 ?a30 ?l30 ?c30 ?k30 ?a31 ?l31 ?c31 ?k31 ?a32 ?l32 ?c32 ?k32 ?z0 ?z1 ?z2 ?z3 ?z4 ?i0 ?i1
    (case a0 => k_is); (case l0 => k_is); (case c0 => k_is); (case k0 => k_is); (case a1 => k_is); (case l1 => k_is); (case c1 => k_is); (case k1 => k_is); (case a2 => k_is); (case l2 => k_is); (case c2 => k_is); (case k2 => k_is); (case a3 => k_is); (case l3 => k_is); (case c3 => k_is); (case k3 => k_is); (case a4 => k_is); (case l4 => k_is); (case c4 => k_is); (case k4 => k_is); (case a5 => k_is); (case l5 => k_is); (case c5 => k_is); (case k5 => k_is); (case a6 => k_is); (case l6 => k_is); (case c6 => k_is); (case k6 => k_is); (case a7 => k_is); (case l7 => k_is); (case c7 => k_is); (case k7 => k_is); (case a8 => k_is); (case l8 => k_is); (case c8 => k_is); (case k8 => k_is); (case a9 => k_is); (case l9 => k_is); (case c9 => k_is); (case k9 => k_is); (case a10 => k_is); (case l10 => k_is); (case c10 => k_is); (case k10 => k_is); (case a11 => k_is); (case l11 => k_is); (case c11 => k_is); (case k11 => k_is); (case a12 => k_is); (case l12 => k_is); (case c12 => k_is); (case k12 => k_is); (case a13 => k_is); (case l13 => k_is); (case c13 => k_is); (case k13 => k_is); (case a14 => k_is); (case l14 => k_is); (case c14 => k_is); (case k14 => k_is); (case a15 => k_is); (case l15 => k_is); (case c15 => k_is); (case k15 => k_is); (case a16 => k_is); (case l16 => k_is); (case c16 => k_is); (case k16 => k_is); (case a17 => k_is); (case l17 => k_is); (case c17 => k_is); (case k17 => k_is); (case a18 => k_is); (case l18 => k_is); (case c18 => k_is); (case k18 => k_is); (case a19 => k_is); (case l19 => k_is); (case c19 => k_is); (case k19 => k_is); (case a20 => k_is); (case l20 => k_is); (case c20 => k_is); (case k20 => k_is); (case a21 => k_is); (case l21 => k_is); (case c21 => k_is); (case k21 => k_is); (case a22 => k_is); (case l22 => k_is); (case c22 => k_is); (case k22 => k_is); (case a23 => k_is); (case l23 => k_is); (case c23 => k_is); (case k23 => k_is); (case a24 => k_is); (case l24 => k_is); (case c24 => k_is); (case k24 => k_is); (case a25 => k_is); (case l25 => k_is); (case c25 => k_is); (case k25 => k_is); (case a26 => k_is); (case l26 => k_is); (case c26 => k_is); (case k26 => k_is); (case a27 => k_is); (case l27 => k_is); (case c27 => k_is); (case k27 => k_is); (case a28 => k_is); (case l28 => k_is); (case c28 => k_is); (case k28 => k_is); (case a29 => k_is); (case l29 => k_is); (case c29 => k_is); (case k29 => k_is); (case a30 => k_is); (case l30 => k_is); (case c30 => k_is); (case k30 => k_is); (case a31 => k_is); (case l31 => k_is); (case c31 => k_is); (case k31 => k_is); (case a32 => k_is); (case l32 => k_is); (case c32 => k_is); (case k32 => k_is); (case z0 => k_is); (case z1 => k_is); (case z2 => k_is); (case z3 => k_is); (case z4 => k_is); (case i0 => k_is); (case i1 => k_is)
