import PyProof.Rows.All
import Wide.All
import OpenK.AllK
import Wide.FinOn
import HandS.ForMost
import HandS.Wide
import HandS.Gcd
import HandS.Style
import HandS.IsInst
import HandS.Codes
import HandS.NoneIn
import HandS.Deep
import Flt.RightSqrt
import KE.DatumOrd
import PyProof.Rows.RowBridgeK
import PySem.Challenge.RW_wholeconic_k12_cycles
set_option Elab.async false
set_option linter.all false
set_option maxRecDepth 100000
set_option maxHeartbeats 4000000
namespace Wc
open PySem PySem.Spec PyProof.Rows L2
/-! ### the text -/
def topS (i : Nat) : Stmt := PySem.Challenge.pw_wholeconic_k12_cycles.main.body.getD i (.Pass ⟨0, 0, 0, 0⟩)
abbrev sFloorRoot : Stmt := topS 2
theorem scFloorRoot : FnScope ["n"] ["n"] (defScope sFloorRoot) := ⟨rfl, rfl, rfl, by decide +kernel, rfl, by decide +kernel, by decide +kernel⟩
abbrev sDiscriminant : Stmt := topS 4
theorem scDiscriminant : FnScope ["form", "a", "b", "c"] ["form"] (defScope sDiscriminant) := ⟨rfl, rfl, rfl, by decide +kernel, rfl, by decide +kernel, by decide +kernel⟩
abbrev sWorth : Stmt := topS 5
theorem scWorth : FnScope ["form", "point", "a", "b", "c", "x", "y"] ["form", "point"] (defScope sWorth) := ⟨rfl, rfl, rfl, by decide +kernel, rfl, by decide +kernel, by decide +kernel⟩
abbrev sAct : Stmt := topS 6
theorem scAct : FnScope ["form", "m", "a", "b", "c", "p", "q", "r", "s", "middle"] ["form", "m"] (defScope sAct) := ⟨rfl, rfl, rfl, by decide +kernel, rfl, by decide +kernel, by decide +kernel⟩
abbrev sMultiply : Stmt := topS 9
theorem scMultiply : FnScope ["m", "n", "p", "q", "r", "s", "p2", "q2", "r2", "s2"] ["m", "n"] (defScope sMultiply) := ⟨rfl, rfl, rfl, by decide +kernel, rfl, by decide +kernel, by decide +kernel⟩
abbrev sIsReduced : Stmt := topS 11
theorem scIsReduced : FnScope ["form", "a", "b", "_", "root"] ["form"] (defScope sIsReduced) := ⟨rfl, rfl, rfl, by decide +kernel, rfl, by decide +kernel, by decide +kernel⟩
abbrev sReduceIndefinite : Stmt := topS 12
theorem scReduceIndefinite : FnScope ["form", "m", "step"] ["form"] (defScope sReduceIndefinite) := ⟨rfl, rfl, rfl, by decide +kernel, rfl, by decide +kernel, by decide +kernel⟩
abbrev sStepNear : Stmt := topS 13
theorem scStepNear : FnScope ["form", "_", "b", "c"] ["form"] (defScope sStepNear) := ⟨rfl, rfl, rfl, by decide +kernel, rfl, by decide +kernel, by decide +kernel⟩
abbrev sStepOf : Stmt := topS 14
theorem scStepOf : FnScope ["form", "_", "b", "c", "root", "b2"] ["form"] (defScope sStepOf) := ⟨rfl, rfl, rfl, by decide +kernel, rfl, by decide +kernel, by decide +kernel⟩
abbrev sCycle : Stmt := topS 15
theorem scCycle : FnScope ["form", "found", "step", "other", "m"] ["form"] (defScope sCycle) := ⟨rfl, rfl, rfl, by decide +kernel, rfl, by decide +kernel, by decide +kernel⟩
abbrev sCanonical : Stmt := topS 16
theorem scCanonical : FnScope ["form", "reduced", "m", "found", "n"] ["form"] (defScope sCanonical) := ⟨rfl, rfl, rfl, by decide +kernel, rfl, by decide +kernel, by decide +kernel⟩
abbrev sLawCell : Stmt := topS 18
theorem scLawCell : FnScope ["script", "k"] ["script", "k"] (defScope sLawCell) := ⟨rfl, rfl, rfl, by decide +kernel, rfl, by decide +kernel, by decide +kernel⟩
abbrev sLawNumbers : Stmt := topS 19
theorem scLawNumbers : FnScope ["cell", "many", "rest", "span", "numbers", "k", "mixed"] ["cell", "many"] (defScope sLawNumbers) := ⟨rfl, rfl, rfl, by decide +kernel, rfl, by decide +kernel, by decide +kernel⟩
abbrev sLawState : Stmt := topS 20
theorem scLawState : FnScope ["script", "numbers", "k"] ["script"] (defScope sLawState) := ⟨rfl, rfl, rfl, by decide +kernel, rfl, by decide +kernel, by decide +kernel⟩
abbrev sLawNext : Stmt := topS 21
theorem scLawNext : FnScope ["state", "many", "number"] ["state", "many"] (defScope sLawNext) := ⟨rfl, rfl, rfl, by decide +kernel, rfl, by decide +kernel, by decide +kernel⟩
abbrev sLawRoot : Stmt := topS 23
theorem scLawRoot : FnScope ["n", "low", "high", "k", "middle"] ["n"] (defScope sLawRoot) := ⟨rfl, rfl, rfl, by decide +kernel, rfl, by decide +kernel, by decide +kernel⟩
abbrev sLawMul : Stmt := topS 24
theorem scLawMul : FnScope ["m", "n", "top"] ["m", "n"] (defScope sLawMul) := ⟨rfl, rfl, rfl, by decide +kernel, rfl, by decide +kernel, by decide +kernel⟩
abbrev sLawWorth : Stmt := topS 26
theorem scLawWorth : FnScope ["form", "x", "y"] ["form", "x", "y"] (defScope sLawWorth) := ⟨rfl, rfl, rfl, by decide +kernel, rfl, by decide +kernel, by decide +kernel⟩
abbrev sLawAct : Stmt := topS 27
theorem scLawAct : FnScope ["form", "m", "first", "last"] ["form", "m"] (defScope sLawAct) := ⟨rfl, rfl, rfl, by decide +kernel, rfl, by decide +kernel, by decide +kernel⟩
abbrev sLawChange : Stmt := topS 28
theorem scLawChange : FnScope ["state", "many", "m", "k", "t"] ["state", "many"] (defScope sLawChange) := ⟨rfl, rfl, rfl, by decide +kernel, rfl, by decide +kernel, by decide +kernel⟩
abbrev sLawSquare : Stmt := topS 29
theorem scLawSquare : FnScope ["n"] ["n"] (defScope sLawSquare) := ⟨rfl, rfl, rfl, by decide +kernel, rfl, by decide +kernel, by decide +kernel⟩
abbrev sLawKind : Stmt := topS 30
theorem scLawKind : FnScope ["form", "d"] ["form"] (defScope sLawKind) := ⟨rfl, rfl, rfl, by decide +kernel, rfl, by decide +kernel, by decide +kernel⟩
abbrev sLawSplit : Stmt := topS 31
theorem scLawSplit : FnScope ["state", "p", "q", "r", "s", "g", "k"] ["state"] (defScope sLawSplit) := ⟨rfl, rfl, rfl, by decide +kernel, rfl, by decide +kernel, by decide +kernel⟩
abbrev sLawFlat : Stmt := topS 32
theorem scLawFlat : FnScope ["state", "p", "q", "g"] ["state"] (defScope sLawFlat) := ⟨rfl, rfl, rfl, by decide +kernel, rfl, by decide +kernel, by decide +kernel⟩
abbrev sLawForm : Stmt := topS 33
theorem scLawForm : FnScope ["state", "sort", "k", "a", "c", "form"] ["state", "sort"] (defScope sLawForm) := ⟨rfl, rfl, rfl, by decide +kernel, rfl, by decide +kernel, by decide +kernel⟩
abbrev sLawNeighbour : Stmt := topS 35
theorem scLawNeighbour : FnScope ["form", "a", "b", "c", "d", "root", "middle"] ["form"] (defScope sLawNeighbour) := ⟨rfl, rfl, rfl, by decide +kernel, rfl, by decide +kernel, by decide +kernel⟩
abbrev sLawRing : Stmt := topS 36
theorem scLawRing : FnScope ["form", "found", "k", "other"] ["form"] (defScope sLawRing) := ⟨rfl, rfl, rfl, by decide +kernel, rfl, by decide +kernel, by decide +kernel⟩
abbrev sLaw : Stmt := topS 37
theorem scLaw : FnScope ["script", "state", "form", "other", "first", "ring", "told", "pair", "m", "least"] ["script"] (defScope sLaw) := ⟨rfl, rfl, rfl, by decide +kernel, rfl, by decide +kernel, by decide +kernel⟩
structure Txt (K : PySem.W.Frag) (mg : Str → Option Value) (fa : Nat → Addr) (fd : Nat → FuncData) : Prop where
  F_floor_root : Fun K "floor_root" "floor_root" sFloorRoot (fa 0) (fd 0)
  B_floor_root : Binds K (fd 0) ["n"] []
  G_floor_root : mg "floor_root" = some (.ref (fa 0))
  F_discriminant : Fun K "discriminant" "discriminant" sDiscriminant (fa 1) (fd 1)
  B_discriminant : Binds K (fd 1) ["form"] []
  G_discriminant : mg "discriminant" = some (.ref (fa 1))
  F_worth : Fun K "worth" "worth" sWorth (fa 2) (fd 2)
  B_worth : Binds K (fd 2) ["form", "point"] []
  G_worth : mg "worth" = some (.ref (fa 2))
  F_act : Fun K "act" "act" sAct (fa 3) (fd 3)
  B_act : Binds K (fd 3) ["form", "m"] []
  G_act : mg "act" = some (.ref (fa 3))
  F_multiply : Fun K "multiply" "multiply" sMultiply (fa 4) (fd 4)
  B_multiply : Binds K (fd 4) ["m", "n"] []
  G_multiply : mg "multiply" = some (.ref (fa 4))
  F_is_reduced : Fun K "is_reduced" "is_reduced" sIsReduced (fa 5) (fd 5)
  B_is_reduced : Binds K (fd 5) ["form"] []
  G_is_reduced : mg "is_reduced" = some (.ref (fa 5))
  F_reduce_indefinite : Fun K "reduce_indefinite" "reduce_indefinite" sReduceIndefinite (fa 6) (fd 6)
  B_reduce_indefinite : Binds K (fd 6) ["form"] []
  G_reduce_indefinite : mg "reduce_indefinite" = some (.ref (fa 6))
  F__step_near : Fun K "_step_near" "_step_near" sStepNear (fa 7) (fd 7)
  B__step_near : Binds K (fd 7) ["form"] []
  G__step_near : mg "_step_near" = some (.ref (fa 7))
  F_step_of : Fun K "step_of" "step_of" sStepOf (fa 8) (fd 8)
  B_step_of : Binds K (fd 8) ["form"] []
  G_step_of : mg "step_of" = some (.ref (fa 8))
  F_cycle : Fun K "cycle" "cycle" sCycle (fa 9) (fd 9)
  B_cycle : Binds K (fd 9) ["form"] []
  G_cycle : mg "cycle" = some (.ref (fa 9))
  F_canonical : Fun K "canonical" "canonical" sCanonical (fa 10) (fd 10)
  B_canonical : Binds K (fd 10) ["form"] []
  G_canonical : mg "canonical" = some (.ref (fa 10))
  F__law_cell : Fun K "_law_cell" "_law_cell" sLawCell (fa 11) (fd 11)
  B__law_cell : Binds K (fd 11) ["script", "k"] []
  G__law_cell : mg "_law_cell" = some (.ref (fa 11))
  F__law_numbers : Fun K "_law_numbers" "_law_numbers" sLawNumbers (fa 12) (fd 12)
  B__law_numbers : Binds K (fd 12) ["cell", "many"] []
  G__law_numbers : mg "_law_numbers" = some (.ref (fa 12))
  F__law_state : Fun K "_law_state" "_law_state" sLawState (fa 13) (fd 13)
  B__law_state : Binds K (fd 13) ["script"] []
  G__law_state : mg "_law_state" = some (.ref (fa 13))
  F__law_next : Fun K "_law_next" "_law_next" sLawNext (fa 14) (fd 14)
  B__law_next : Binds K (fd 14) ["state", "many"] []
  G__law_next : mg "_law_next" = some (.ref (fa 14))
  F__law_root : Fun K "_law_root" "_law_root" sLawRoot (fa 15) (fd 15)
  B__law_root : Binds K (fd 15) ["n"] []
  G__law_root : mg "_law_root" = some (.ref (fa 15))
  F__law_mul : Fun K "_law_mul" "_law_mul" sLawMul (fa 16) (fd 16)
  B__law_mul : Binds K (fd 16) ["m", "n"] []
  G__law_mul : mg "_law_mul" = some (.ref (fa 16))
  F__law_worth : Fun K "_law_worth" "_law_worth" sLawWorth (fa 17) (fd 17)
  B__law_worth : Binds K (fd 17) ["form", "x", "y"] []
  G__law_worth : mg "_law_worth" = some (.ref (fa 17))
  F__law_act : Fun K "_law_act" "_law_act" sLawAct (fa 18) (fd 18)
  B__law_act : Binds K (fd 18) ["form", "m"] []
  G__law_act : mg "_law_act" = some (.ref (fa 18))
  F__law_change : Fun K "_law_change" "_law_change" sLawChange (fa 19) (fd 19)
  B__law_change : Binds K (fd 19) ["state", "many"] []
  G__law_change : mg "_law_change" = some (.ref (fa 19))
  F__law_square : Fun K "_law_square" "_law_square" sLawSquare (fa 20) (fd 20)
  B__law_square : Binds K (fd 20) ["n"] []
  G__law_square : mg "_law_square" = some (.ref (fa 20))
  F__law_kind : Fun K "_law_kind" "_law_kind" sLawKind (fa 21) (fd 21)
  B__law_kind : Binds K (fd 21) ["form"] []
  G__law_kind : mg "_law_kind" = some (.ref (fa 21))
  F__law_split : Fun K "_law_split" "_law_split" sLawSplit (fa 22) (fd 22)
  B__law_split : Binds K (fd 22) ["state"] []
  G__law_split : mg "_law_split" = some (.ref (fa 22))
  F__law_flat : Fun K "_law_flat" "_law_flat" sLawFlat (fa 23) (fd 23)
  B__law_flat : Binds K (fd 23) ["state"] []
  G__law_flat : mg "_law_flat" = some (.ref (fa 23))
  F__law_form : Fun K "_law_form" "_law_form" sLawForm (fa 24) (fd 24)
  B__law_form : Binds K (fd 24) ["state", "sort"] []
  G__law_form : mg "_law_form" = some (.ref (fa 24))
  F__law_neighbour : Fun K "_law_neighbour" "_law_neighbour" sLawNeighbour (fa 25) (fd 25)
  B__law_neighbour : Binds K (fd 25) ["form"] []
  G__law_neighbour : mg "_law_neighbour" = some (.ref (fa 25))
  F__law_ring : Fun K "_law_ring" "_law_ring" sLawRing (fa 26) (fd 26)
  B__law_ring : Binds K (fd 26) ["form"] []
  G__law_ring : mg "_law_ring" = some (.ref (fa 26))
  F_law : Fun K "law" "law" sLaw (fa 27) (fd 27)
  B_law : Binds K (fd 27) ["script"] []
  G_law : mg "law" = some (.ref (fa 27))
  g_UNIT : mg "UNIT" = some (.ref (fa 28))
  S_UNIT : ∀ H, SqT K H (fa 28) [.int 1, .int 0, .int 0, .int 1]
  m_abs : mg "abs" = none
  m_int : mg "int" = none
  m_isinstance : mg "isinstance" = none
  m_len : mg "len" = none
  m_list : mg "list" = none
  m_min : mg "min" = none
  m_range : mg "range" = none
  m_tuple : mg "tuple" = none
  g_isqrt : mg "isqrt" = some (.builtin "math.isqrt")

/-! ### heaps, draws -/
theorem same_upd {H : Hp} {p : Addr} {o : HO} (h : H p = none) : Same H (upd H p o) := fun b x e => by
  rw [upd_ne (ne_of_none e h)]
  exact e
theorem same_mut {H0 H : Hp} {p : Addr} {o : HO} (s : Same H0 H) (h : H0 p = none) : Same H0 (upd H p o) := fun b x e => by
  rw [upd_ne (ne_of_none e h)]
  exact s _ _ e
theorem same_off {H H' : Hp} {p : Addr} {o : HO} {q : Addr} (f : ∀ b, b ≠ p → H' b = H b) (n : q ≠ p) (h : H q = some o) : H' q = some o := by
  rw [f q n]
  exact h
/-- the state of the draws: the list at p, its numbers at a, at most N draws so far -/
def Dw (H : Hp) (p a : Addr) (N : Nat) : Prop := ∃ (m : Nat) (ns : List Int), m ≤ N ∧ a ≠ p ∧ H p = some (.lst [.ref a, .int (m : Int)]) ∧ H a = some (.lst (ns.map V.int)) ∧ ns.length = 120 ∧ ∀ n ∈ ns, 0 ≤ n ∧ n < 1000
theorem Dw.same {H H' : Hp} {p a : Addr} {N : Nat} (s : Same H H') (d : Dw H p a N) : Dw H' p a N := by
  obtain ⟨m, ns, h1, h2, h3, h4, h5⟩ := d
  exact ⟨m, ns, h1, h2, s _ _ h3, s _ _ h4, h5⟩
theorem Dw.mono {H : Hp} {p a : Addr} {N M : Nat} (d : Dw H p a N) (h : N ≤ M) : Dw H p a M := by
  obtain ⟨m, ns, h1, h2⟩ := d
  exact ⟨m, ns, Nat.le_trans h1 h, h2⟩
theorem Dw.new {H : Hp} {p a q : Addr} {o : HO} {N : Nat} (d : Dw H p a N) (h : H q = none) : Dw (upd H q o) p a N := d.same (same_upd h)
theorem Dw.ne {H : Hp} {p a q : Addr} {N : Nat} (d : Dw H p a N) (h : H q = none) : q ≠ p ∧ q ≠ a := by
  obtain ⟨m, ns, h1, h2, h3, h4, h5⟩ := d
  exact ⟨(ne_of_none h3 h).symm, (ne_of_none h4 h).symm⟩
theorem Dw.mut {H : Hp} {p a q : Addr} {o : HO} {N : Nat} (d : Dw H p a N) (hp : q ≠ p) (ha : q ≠ a) : Dw (upd H q o) p a N := by
  obtain ⟨m, ns, h1, h2, h3, h4, h5⟩ := d
  exact ⟨m, ns, h1, h2, by rw [upd_ne hp.symm]; exact h3, by rw [upd_ne ha.symm]; exact h4, h5⟩
theorem at_mem {α : Type} {xs : List α} {r : Int} (h0 : 0 ≤ r) (h1 : r < xs.length) : ∃ v, v ∈ xs ∧ atI xs r = some v := by
  obtain ⟨j, rfl⟩ := Int.eq_ofNat_of_zero_le h0
  have hj : j < xs.length := by omega
  exact ⟨xs[j], List.getElem_mem hj, atI_nat (List.getElem?_eq_getElem hj)⟩
theorem at_int {ns : List Int} {r : Int} (h0 : 0 ≤ r) (h1 : r < ns.length) : ∃ n ∈ ns, atI (ns.map V.int) r = some (.int n) := by
  obtain ⟨v, hv, e⟩ := at_mem (xs := ns.map V.int) h0 (by rw [List.length_map]; exact h1)
  obtain ⟨n, hn, rfl⟩ := List.mem_map.mp hv
  exact ⟨n, hn, e⟩
theorem pow_ok {i j : Int} (h : 0 ≤ j ∧ j ≤ 1000000 ∧ i.natAbs < 2 ^ 64) : CPow i j := h
theorem wayF {c A B : Prop} [Decidable c] (h : ¬ c) (b : B) : if decide c = true then A else B := by
  rw [if_neg (fun z => h (of_decide_eq_true z))]
  exact b
theorem wayT {c A B : Prop} [Decidable c] (h : c) (a : A) : if decide c = true then A else B := by
  rw [if_pos (decide_eq_true h)]
  exact a
theorem wayNF {c A B : Prop} [Decidable c] (h : c) (b : B) : if (!decide c) = true then A else B := by
  rw [decide_eq_true h]
  exact iteF b
theorem wayNT {c A B : Prop} [Decidable c] (h : ¬ c) (a : A) : if (!decide c) = true then A else B := by
  rw [decide_eq_false h]
  exact iteT a
theorem way2 {c A B : Prop} [Decidable c] (h1 : c → A) (h2 : ¬ c → B) : if decide c = true then A else B := by
  by_cases h : c
  · exact wayT h (h1 h)
  · exact wayF h (h2 h)
theorem wayN2 {c A B : Prop} [Decidable c] (h1 : ¬ c → A) (h2 : c → B) : if (!decide c) = true then A else B := by
  by_cases h : c
  · exact wayNF h (h2 h)
  · exact wayNT h (h1 h)
theorem abs_int (i : Int) : (if i < 0 then -i else i) = (i.natAbs : Int) := by
  split <;> omega
theorem small200 {n : Nat} (h : n ≤ 1000) : n ≤ sizeLine := Nat.le_of_lt (small1000 h)
/-! ### data: == of lists and tuples -/
theorem dp_ints {K : PySem.W.Frag} {H : Hp} : ∀ ns : List Int, DpAll K H (ns.map V.int) (ns.map PyData.int)
  | [] => .nil
  | n :: ns => .cons (.int n) (dp_ints ns)
theorem lay_ints : ∀ ns : List Int, PyData.canLayAll0 (ns.map PyData.int) = true
  | [] => rfl
  | n :: ns => by
    rw [List.map_cons, PyData.canLayAll0, lay_ints ns]
    rfl
theorem depth_ints : ∀ ns : List Int, PyData.depthAll (ns.map PyData.int) = 0
  | [] => rfl
  | n :: ns => by
    rw [List.map_cons, PyData.depthAll, depth_ints ns]
    rfl
theorem shaped_ints (ns : List Int) : SeqAt.shaped (.list (ns.map PyData.int)) = true := by
  show (PyData.canLay0 (.list (ns.map PyData.int)) && decide (PyData.depth (.list (ns.map PyData.int)) ≤ 64)) = true
  rw [Bool.and_eq_true]
  refine ⟨by rw [PyData.canLay0]; exact lay_ints ns, decide_eq_true ?_⟩
  rw [PyData.depth, depth_ints]
  decide
theorem shaped_intsT (ns : List Int) : SeqAt.shaped (.tuple (ns.map PyData.int)) = true := by
  show (PyData.canLay0 (.tuple (ns.map PyData.int)) && decide (PyData.depth (.tuple (ns.map PyData.int)) ≤ 64)) = true
  rw [Bool.and_eq_true]
  refine ⟨by rw [PyData.canLay0]; exact lay_ints ns, decide_eq_true ?_⟩
  rw [PyData.depth, depth_ints]
  decide
theorem eqD_same {K : PySem.W.Frag} {H : Hp} {x y : V} {Q : VK} {d : PyData} (hx : Dp K H x d) (hy : Dp K H y d) (sh : SeqAt.shaped d = true) (q : Q (.bl true) H) : rEqD K x y H Q :=
  ⟨d, d, hx, hy, sh, sh, by rw [SeqAt.eqv_refl d (SeqAt.canLay_of_shaped sh)]; exact q⟩
theorem neD_same {K : PySem.W.Frag} {H : Hp} {x y : V} {Q : VK} {d : PyData} (hx : Dp K H x d) (hy : Dp K H y d) (sh : SeqAt.shaped d = true) (q : Q (.bl false) H) : rNeD K x y H Q :=
  ⟨d, d, hx, hy, sh, sh, by rw [SeqAt.eqv_refl d (SeqAt.canLay_of_shaped sh)]; exact q⟩
/-! ### slices -/
theorem cut_to (ns : List Int) (k : Nat) : cutV (ns.map V.int) none (some (k : Int)) = (ns.take k).map V.int := by
  unfold cutV
  rw [HT.sIx_none, HT.sIx_nat, List.drop_zero, List.map_take, Nat.sub_zero, List.length_map]
  by_cases h : k ≤ ns.length
  · rw [Nat.min_eq_left h]
  · rw [Nat.min_eq_right (by omega), List.take_of_length_le (by rw [List.length_map]; omega), List.take_of_length_le (by rw [List.length_map]; omega)]
theorem cut_from (xs : List V) (k : Nat) : cutV xs (some (k : Int)) none = xs.drop k := by
  unfold cutV
  rw [HT.sIx_none, HT.sIx_nat]
  by_cases h : k ≤ xs.length
  · rw [Nat.min_eq_left h, List.take_of_length_le (by rw [List.length_drop]; omega)]
  · rw [Nat.min_eq_right (by omega), List.drop_of_length_le (by omega), List.drop_of_length_le (by omega)]
    exact List.take_nil
theorem isiF {K : PySem.W.Frag} {H : Hp} {i : Int} {Q : VK} (q : Q (.bl false) H) : rIsi K [.int i, .ty "bool"] H Q := ⟨_, _, _, _, false, rfl, ClsV.ty _, TyX.base (.int i), kit_ty (by decide +kernel), q⟩
theorem isiT {K : PySem.W.Frag} {H : Hp} {b : Bool} {Q : VK} (q : Q (.bl true) H) : rIsi K [.bl b, .ty "bool"] H Q := ⟨_, _, _, _, true, rfl, ClsV.ty _, TyX.base (.bl b), kit_ty (by decide +kernel), q⟩
theorem isiTup {K : PySem.W.Frag} {H : Hp} {a : Addr} {xs : List V} {Q : VK} (h : H a = some (.tup xs)) (q : Q (.bl true) H) : rIsi K [.ref a, .ty "tuple"] H Q := ⟨_, _, _, _, true, rfl, ClsV.ty _, TyX.base (.tup h), kit_ty (by decide +kernel), q⟩
theorem isiLst {K : PySem.W.Frag} {H : Hp} {a : Addr} {xs : List V} {Q : VK} (h : H a = some (.lst xs)) (q : Q (.bl true) H) : rIsi K [.ref a, .ty "list"] H Q := ⟨_, _, _, _, true, rfl, ClsV.ty _, TyX.base (.lst h), kit_ty (by decide +kernel), q⟩
/-! ### rules with the written part named -/
section
variable {X : Cx}
def rLenQ (K : PySem.W.Frag) : List V → Hp → VK → Prop := fun xs H Q => ∃ p ys, xs = [.ref p] ∧ (SqL K H p ys ∨ SqT K H p ys) ∧ Q (.int ys.length) H
def rListQ (K : PySem.W.Frag) : List V → Hp → VK → Prop := fun xs H Q => ∃ p ys, xs = [.ref p] ∧ (SqL K H p ys ∨ SqT K H p ys) ∧ ∀ l, H l = none → Q (.ref l) (upd H l (.lst ys))
def rTupQ (K : PySem.W.Frag) : List V → Hp → VK → Prop := fun xs H Q => ∃ p ys, xs = [.ref p] ∧ ((SqL K H p ys ∧ ∀ l, H l = none → Q (.ref l) (upd H l (.tup ys))) ∨ (SqT K H p ys ∧ Q (.ref p) H))
theorem ixL (K : PySem.W.Frag) (h : X.K = K := by rfl) : IxR X (rIxL K) := by subst h; exact ix_list
theorem ixT (K : PySem.W.Frag) (h : X.K = K := by rfl) : IxR X (rIxT K) := by subst h; exact ix_tup
theorem slL (K : PySem.W.Frag) (h : X.K = K := by rfl) : SlR X (rSlL K) := by subst h; exact sl_list
theorem slT (K : PySem.W.Frag) (h : X.K = K := by rfl) : SlR X (rSlT K) := by subst h; exact sl_tup
theorem lenQ (K : PySem.W.Frag) (h : X.K = K := by rfl) : CallR X (.builtin "len") (rLenQ K) := by subst h; exact call_len_seq
theorem listQ (K : PySem.W.Frag) (h : X.K = K := by rfl) : CallR X (.type "list") (rListQ K) := by subst h; exact call_list_of
theorem tupQ (K : PySem.W.Frag) (h : X.K = K := by rfl) : CallR X (.type "tuple") (rTupQ K) := by subst h; exact call_tuple_of
theorem isiQ (K : PySem.W.Frag) (h : X.K = K := by rfl) : CallR X (.builtin "isinstance") (rIsi K) := by subst h; exact call_isi
theorem eqDQ (K : PySem.W.Frag) (hu : X.A.units + 64 < cLine) (h : X.K = K := by rfl) : OpR X (compareOp .Eq) (rEqD K) := by subst h; exact op_eqD hu
theorem neDQ (K : PySem.W.Frag) (hu : X.A.units + 64 < cLine) (h : X.K = K := by rfl) : OpR X (compareOp .NotEq) (rNeD K) := by subst h; exact op_neD hu
theorem piL (K : PySem.W.Frag) {tg l : Expr} {tl : TE} (hl : PE X l tl) (h : X.K = K := by rfl) : PI X tg l (iList K tl) := by subst h; exact pi_list hl
theorem piT (K : PySem.W.Frag) {tg l : Expr} {tl : TE} (hl : PE X l tl) (h : X.K = K := by rfl) : PI X tg l (iTup K tl) := by subst h; exact pi_tup hl
theorem inQ (K : PySem.W.Frag) (h : X.K = K := by rfl) : OpR X (compareOp .In) (rIn K false) := by subst h; exact op_in_seq
theorem notInQ (K : PySem.W.Frag) (h : X.K = K := by rfl) : OpR X (compareOp .NotIn) (rIn K true) := by subst h; exact op_notIn_seq
end
/-! ### great numbers -/
section
variable {X : Cx}
/-- // by any divisor below 2 ^ 9000 -/
def CDivX (_ j : Int) : Prop := j ≠ 0 ∧ j.natAbs < 2 ^ 9000
theorem op_fdivX : OpR X (binaryOp .FloorDiv) (rI CDivX fun i j => .int (i.fdiv j)) := opI fun i j _ _ _ _ _ hc q =>
  floordiv_int hc.1 q (.inl (PyProof.noPylong_of_log2 (PySem.Flt.log2_lt_of (by decide) hc.2)))
end
theorem pow_up {n a b : Nat} (h : n < 2 ^ a) (hab : a ≤ b) : n < 2 ^ b := Nat.lt_of_lt_of_le h (Nat.pow_le_pow_right (by decide) hab)

/-! ### bounds by powers of two -/
def Bd (n : Nat) (x : Int) : Prop := x.natAbs < 2 ^ n
theorem Bd.mono {n m : Nat} {x : Int} (h : Bd n x) (l : n ≤ m) : Bd m x := Nat.lt_of_lt_of_le h (Nat.pow_le_pow_right (by decide) l)
theorem Bd.mul {n m : Nat} {x y : Int} (h1 : Bd n x) (h2 : Bd m y) : Bd (n + m) (x * y) := wide_lt h1 h2
theorem Bd.add {n m : Nat} {x y : Int} (h1 : Bd n x) (h2 : Bd m y) : Bd (max n m + 1) (x + y) := by
  have a1 := h1.mono (Nat.le_max_left n m)
  have a2 := h2.mono (Nat.le_max_right n m)
  unfold Bd at *
  rw [Nat.pow_succ]
  omega
theorem Bd.neg {n : Nat} {x : Int} (h : Bd n x) : Bd n (-x) := by
  unfold Bd at *
  rw [Int.natAbs_neg]
  exact h
theorem Bd.sub {n m : Nat} {x y : Int} (h1 : Bd n x) (h2 : Bd m y) : Bd (max n m + 1) (x - y) := by
  have h := h1.add h2.neg
  rw [← Int.sub_eq_add_neg] at h
  exact h
theorem Bd.l8 {x : Int} (h : (x.natAbs < 2 ^ 8) = True) : Bd 8 x := of_eq_true h
theorem Bd.lit {x : Int} (h : (x.natAbs < 2 ^ 64) = True) : Bd 64 x := of_eq_true h
theorem Bd.om {x : Int} (h : x.natAbs < 1152921504606846976) : Bd 60 x := h
theorem Bd.fdiv {n : Nat} {x y : Int} (h : Bd n x) : Bd n (x.fdiv y) := by
  unfold Bd at *
  exact Nat.lt_of_le_of_lt (Int.natAbs_fdiv_le_natAbs x y) h
theorem Bd.mod {n : Nat} {x y : Int} (h : Bd n y) (hy : y ≠ 0) : Bd n (x % y) := by
  unfold Bd at *
  have h0 := Int.emod_nonneg x hy
  have h1 := Int.emod_lt x hy
  omega
theorem Bd.abs {n : Nat} {x : Int} (h : Bd n x) : Bd n (x.natAbs : Int) := by
  unfold Bd at *
  rw [Int.natAbs_natCast]
  exact h
theorem Bd.div {n : Nat} {x y : Int} (h : Bd n x) : Bd n (x / y) := by
  unfold Bd at *
  exact Nat.lt_of_le_of_lt (Int.natAbs_ediv_le_natAbs x y) h
theorem bdm {n m : Nat} {x : Int} (h : Bd n x) (l : Nat.ble n m = true) : Bd m x := h.mono (Nat.le_of_ble_eq_true l)
theorem Bd.of {n : Nat} {x : Int} {m : Nat} (h : x.natAbs ≤ m) (l : m < 2 ^ n) : Bd n x := Nat.lt_of_le_of_lt h l
theorem Bd.mulW {n m : Nat} {x y : Int} (h1 : Bd n x) (h2 : Bd m y) (l : n + m ≤ 900000) : CMulW x y :=
  wide_mul (a := n + 1) (b := m + 1) (h1.mono (Nat.le_succ n)) (h2.mono (Nat.le_succ m)) (Nat.succ_pos n) (Nat.succ_pos m) (by omega)
theorem Bd.x4 {n m : Nat} {x y : Int} (h1 : Bd n x) (l : n ≤ m) (h : y = x) : Bd m y := h ▸ h1.mono l
/-! ### heaps -/
theorem same_seqT {K : PySem.W.Frag} {H H' : Hp} {a : Addr} {xs : List V} (e : Same H H') (h : SqT K H a xs) : SqT K H' a xs := by
  rcases h with (h | ⟨o, h⟩) | h
  · exact .inl (.inl (e _ _ h))
  · exact .inl (.inr ⟨o, e _ _ h⟩)
  · exact .inr h
/-- tuples stay -/
def KT (K : PySem.W.Frag) (H H' : Hp) : Prop := ∀ a xs, SqT K H a xs → SqT K H' a xs
/-- all but p stays -/
def Frm (p : Addr) (H H' : Hp) : Prop := ∀ b, b ≠ p → H' b = H b
/-- all that was tracked, but p, stays -/
def Kp (p : Addr) (H H' : Hp) : Prop := ∀ b o, b ≠ p → H b = some o → H' b = some o
theorem same_kt {K : PySem.W.Frag} {H H' : Hp} (e : Same H H') : KT K H H' := fun _ _ h => same_seqT e h
theorem same_kp {p : Addr} {H H' : Hp} (e : Same H H') : Kp p H H' := fun b o _ h => e b o h
theorem frm_kp {p : Addr} {H H' : Hp} (f : Frm p H H') : Kp p H H' := fun b o n h => (f b n).trans h
theorem Kp.refl {p : Addr} {H : Hp} : Kp p H H := fun b o _ h => h
theorem Kp.trans {p : Addr} {H H1 H2 : Hp} (a : Kp p H H1) (b : Kp p H1 H2) : Kp p H H2 := fun c o n h => b c o n (a c o n h)
theorem KT.trans {K : PySem.W.Frag} {H H1 H2 : Hp} (a : KT K H H1) (b : KT K H1 H2) : KT K H H2 := fun c xs h => b c xs (a c xs h)
theorem KT.refl {K : PySem.W.Frag} {H : Hp} : KT K H H := fun _ _ h => h
theorem kpB {p : Addr} {H H1 H' : Hp} (e : Kp p H1 H') (s : Kp p H H1) : Kp p H H' := s.trans e
theorem sameB {H H1 H' : Hp} (e : Same H1 H') (s : Same H H1) : Same H H' := s.trans e
theorem same_at {H H' : Hp} {a : Addr} {o : HO} (e : Same H H') (h : H a = some o) : H' a = some o := e _ _ h
theorem kp_at {p : Addr} {H H' : Hp} {a : Addr} {o : HO} (e : Kp p H H') (n : a ≠ p) (h : H a = some o) : H' a = some o := e _ _ n h
theorem KT.use {K : PySem.W.Frag} {H H' : Hp} {a : Addr} {xs : List V} (e : KT K H H') (h : SqT K H a xs) : SqT K H' a xs := e a xs h
theorem Kp.kt {K : PySem.W.Frag} {H H' : Hp} {p a : Addr} {N : Nat} (f : Kp p H H') (d : Dw H p a N) : KT K H H' := fun c xs h => by
  obtain ⟨m, ns, h1, h2, h3, h4⟩ := d
  rcases h with (h | ⟨o, h⟩) | h
  · refine .inl (.inl (f c _ ?_ h))
    rintro rfl
    rw [h3] at h
    cases h
  · refine .inl (.inr ⟨o, f c _ ?_ h⟩)
    rintro rfl
    rw [h3] at h
    cases h
  · exact .inr h
theorem kp_seqT {K : PySem.W.Frag} {H H' : Hp} {p a b : Addr} {N : Nat} {xs : List V} (f : Kp p H H') (d : Dw H p a N) (h : SqT K H b xs) : SqT K H' b xs := f.kt d b xs h
theorem Kp.seqL {K : PySem.W.Frag} {p : Addr} {H H' : Hp} {a : Addr} {xs : List V} (f : Kp p H H') (n : a ≠ p) (h : SqL K H a xs) : SqL K H' a xs := by
  rcases h with (h | ⟨o, h⟩) | h
  · exact .inl (.inl (f _ _ n h))
  · exact .inl (.inr ⟨o, f _ _ n h⟩)
  · exact .inr h
theorem Dw.kp0 {H : Hp} {p a q : Addr} {o : HO} (h : H q = none) : Kp p H (upd H q o) := same_kp (same_upd h)
theorem fresh_ne {H : Hp} {o p a : Addr} {N : Nat} (h : H o = none) (d : Dw H p a N) : o ≠ p := (d.ne h).1
section
variable {X : Cx}
def rAbs (_ : PySem.W.Frag) : List V → Hp → VK → Prop := fun xs H Q => ∃ i : Int, xs = [.int i] ∧ Q (.int (i.natAbs : Int)) H
def rInt (_ : PySem.W.Frag) : List V → Hp → VK → Prop := fun xs H Q => (∃ i : Int, xs = [.int i] ∧ Q (.int i) H) ∨ ∃ k : Bool, xs = [.bl k] ∧ Q (.int (if k then 1 else 0)) H
theorem absQ (K : PySem.W.Frag) : CallR X (.builtin "abs") (rAbs K) := by
  intro pins s σ H xs us Q I r h
  obtain ⟨i, e, q⟩ := h
  exact call_abs pins s σ H xs us Q I r ⟨i, e, by rw [abs_int]; exact q⟩
theorem intQ (K : PySem.W.Frag) : CallR X (.type "int") (rInt K) := call_int1
theorem minQ (K : PySem.W.Frag) (hc : X.calm = true := by rfl) (h : X.K = K := by rfl) : CallR X (.builtin "min") (rMin K) := by
  subst h
  exact cr_min hc
theorem pgT (K : PySem.W.Frag) (n : Nat) {es : List Expr} {k : Nat} {pos : Pos} {t : TGs} (hc : X.calm = true) (h : PGs X es t) (hn : (assignEach es X.env).length = n := by rfl) (hst : (assignEach es X.env).findIdx? (·.1) = none := by rfl) (hK : X.K = K := by rfl) : PG X (.Tuple es k pos) (gTup K n t) := by
  subst hK
  exact pg_tup hc h hn hst
end
namespace R
section
variable {K : PySem.W.Frag} {σ : L2.St} {H : Hp} {Q : VK} {ta tb te : TE} {v x y : V} {i j : Int}
theorem var {n : Nat} (h : σ[n]? = some (some v)) (q : Q v H) : tVar n σ H Q := ⟨v, h, q⟩
theorem con (q : Q v H) : tC v σ H Q := q
theorem op {r : R2} (h : ta σ H fun x H1 => tb σ H1 fun y H2 => r x y H2 Q) : tOp r ta tb σ H Q := h
theorem un {r : V → Hp → VK → Prop} (h : ta σ H fun x H1 => r x H1 Q) : tUn r ta σ H Q := h
theorem i0 {g : Int → Int → V} (q : Q (g i j) H) : rI0 g (.int i) (.int j) H Q := ⟨i, j, rfl, rfl, q⟩
theorem i2 {C : Int → Int → Prop} {g : Int → Int → V} (c : C i j) (q : Q (g i j) H) : rI C g (.int i) (.int j) H Q := ⟨i, j, rfl, rfl, c, q⟩
theorem u1 {g : Int → V} (q : Q (g i) H) : rU g (.int i) H Q := ⟨i, rfl, q⟩
theorem ixT {p : Addr} {xs : List V} (h : SqT K H p xs) (e : atI xs i = some v) (q : Q v H) : rIxT K (.ref p) (.int i) H Q := ⟨p, xs, i, v, rfl, rfl, h, e, q⟩
theorem ixL {p : Addr} {xs : List V} (h : SqL K H p xs) (e : atI xs i = some v) (q : Q v H) : rIxL K (.ref p) (.int i) H Q := ⟨p, xs, i, v, rfl, rfl, h, e, q⟩
theorem nil {Q : List V → Hp → Prop} (q : Q [] H) : tNil σ H Q := q
theorem cons {tr : TA} {Q : List V → Hp → Prop} (h : ta σ H fun x H1 => tr σ H1 fun xs H2 => Q (x :: xs) H2) : tCons ta tr σ H Q := h
/-- what is wanted of a new tuple, a new list -/
def NwT (H : Hp) (xs : List V) (Q : VK) : Prop := xs.length ≤ sizeLine ∧ ∀ p, H p = none → Q (.ref p) (upd H p (.tup xs))
def NwL (H : Hp) (xs : List V) (Q : VK) : Prop := xs.length ≤ sizeLine ∧ ∀ p, H p = none → Q (.ref p) (upd H p (.lst xs))
def Nw (H : Hp) (xs : List V) (Q : VK) : Prop := ∀ H' t, Same H H' → H' t = some (.tup xs) → Q (.ref t) H'
theorem nw {xs : List V} (h : ∀ H' t, Same H H' → H' t = some (.tup xs) → Q (.ref t) H') : Nw H xs Q := h
def Mt (H : Hp) (xs : List V) (Q : VK) : Prop := ∀ H' p, Same H H' → H p = none → H' p = some (.tup xs) → Q (.ref p) H'
def Ml (H : Hp) (xs : List V) (Q : VK) : Prop := ∀ H' p, Same H H' → H p = none → H' p = some (.lst xs) → Q (.ref p) H'
theorem mt {xs : List V} (h : ∀ H' p, Same H H' → H p = none → H' p = some (.tup xs) → Q (.ref p) H') : Mt H xs Q := h
theorem ml {xs : List V} (h : ∀ H' p, Same H H' → H p = none → H' p = some (.lst xs) → Q (.ref p) H') : Ml H xs Q := h
theorem tup {t : TA} (h : t σ H fun xs H1 => NwT H1 xs Q) : tTup t σ H Q := h
theorem lst {t : TA} (h : t σ H fun xs H1 => NwL H1 xs Q) : tLst t σ H Q := h
theorem nwT {xs : List V} (l : Nat.ble xs.length 1000 = true) (q : Mt H xs Q) : NwT H xs Q :=
  ⟨Nat.le_of_lt (small1000 (Nat.le_of_ble_eq_true l)), fun p n => q _ p (same_upd n) n upd_same⟩
theorem nwL {xs : List V} (l : Nat.ble xs.length 1000 = true) (q : Ml H xs Q) : NwL H xs Q :=
  ⟨Nat.le_of_lt (small1000 (Nat.le_of_ble_eq_true l)), fun p n => q _ p (same_upd n) n upd_same⟩
theorem call {sp : Sp} {dvs : List V} {E : XK} {t : TA} (h : t σ H fun vs H1 => sp (vs ++ dvs) H1 Q E) : tCall sp dvs E t σ H Q := h
theorem callB {r : List V → Hp → VK → Prop} {t : TA} (h : t σ H fun vs H1 => r vs H1 Q) : tCB r t σ H Q := h
theorem gname {n : Nat} {Q : L2.St → Hp → Prop} (h : Q (σ.set n (some v)) H) : gName n v σ H Q := h
theorem gtup {n : Nat} {t : TGs} {a : Addr} {xs : List V} {Q : L2.St → Hp → Prop} (h1 : SqT K H a xs) (h2 : xs.length = n) (h : t xs σ H Q) : gTup K n t (.ref a) σ H Q := ⟨a, xs, rfl, h1, h2, h⟩
theorem gcons {t : TG} {u : TGs} {r : List V} {Q : L2.St → Hp → Prop} (h : t v σ H fun σ' H' => u r σ' H' Q) : gCons t u (v :: r) σ H Q := ⟨v, r, rfl, h⟩
theorem gnil {Q : L2.St → Hp → Prop} (h : Q σ H) : gNil [] σ H Q := ⟨rfl, h⟩
variable {nx : L2.St → Hp → Prop} {rt : VK} {bk ct : L2.St → Hp → Prop} {t u : TS} {c : TT}
theorem seq (h : t (Ends.mk (u (Ends.mk nx rt bk ct)) rt bk ct) σ H) : tSeq t u (Ends.mk nx rt bk ct) σ H := h
theorem asg {g : TG} (h : te σ H fun x H1 => g x σ H1 nx) : tAsg te g (Ends.mk nx rt bk ct) σ H := h
theorem brk (h : bk σ H) : tBreak (Ends.mk nx rt bk ct) σ H := h
theorem cont (h : ct σ H) : tCont (Ends.mk nx rt bk ct) σ H := h
theorem ret (h : te σ H rt) : tRet te (Ends.mk nx rt bk ct) σ H := h
theorem next (h : nx σ H) : tNext (Ends.mk nx rt bk ct) σ H := h
theorem drop (h : te σ H fun _ H1 => nx σ H1) : tDrop te (Ends.mk nx rt bk ct) σ H := h
theorem par {i j : Nat} {ta : TA} (h : ta σ H fun vs H1 => ∃ v w, vs = [v, w] ∧ nx ((σ.set i (some v)).set j (some w)) H1) : tPar i j ta (Ends.mk nx rt bk ct) σ H := h
theorem par2 {P : V → V → Prop} (h : P x y) : ∃ v w, [x, y] = [v, w] ∧ P v w := ⟨x, y, rfl, h⟩
theorem ifs (h : c σ H fun b H1 => if b = true then t (Ends.mk nx rt bk ct) σ H1 else u (Ends.mk nx rt bk ct) σ H1) : tIfS c t u (Ends.mk nx rt bk ct) σ H := h
theorem tif (h : c σ H fun b H1 => if b = true then ta σ H1 Q else tb σ H1 Q) : tIf c ta tb σ H Q := h
theorem test {Q : Bool → Hp → Prop} (h : te σ H fun x H' => ∃ k, x = .bl k ∧ Q k H') : tTest te σ H Q := h
theorem tb' {Q : Bool → Hp → Prop} (h : te σ H fun x H' => ∃ k, x = .bl k ∧ Q k H') : tB te σ H Q := h
theorem isbl {b : Bool} {P : Bool → Prop} (h : P b) : ∃ k, V.bl b = .bl k ∧ P k := ⟨b, rfl, h⟩
theorem cmp {p : Int → Int → Bool} (h : t2I ta tb (fun i j H2 => Q (.bl (p i j)) H2) σ H) : tCmp p ta tb σ H Q := h
theorem t2i {k : Int → Int → Hp → Prop} (h : ta σ H fun x H1 => tb σ H1 fun y H2 => ∃ i j, x = .int i ∧ y = .int j ∧ k i j H2) : t2I ta tb k σ H := h
theorem intp {k : Int → Int → Prop} (h : k i j) : ∃ a b : Int, V.int i = .int a ∧ V.int j = .int b ∧ k a b := ⟨i, j, rfl, rfl, h⟩
theorem cut {Mid : L2.St → Hp → Prop} (h1 : t (Ends.mk Mid rt bk ct) σ H) (h2 : ∀ σ' H', Mid σ' H' → u (Ends.mk nx rt bk ct) σ' H') : C8.tCut t u (Ends.mk nx rt bk ct) σ H := ⟨Mid, h1, h2⟩
variable {d : TT}
theorem and {Q : Bool → Hp → Prop} (h : c σ H fun k H1 => if k = true then d σ H1 Q else Q false H1) : tAnd c d σ H Q := h
theorem or {Q : Bool → Hp → Prop} (h : c σ H fun k H1 => if k = true then Q true H1 else d σ H1 Q) : tOr c d σ H Q := h
theorem not {Q : Bool → Hp → Prop} (h : c σ H fun k H1 => Q (!k) H1) : tNot c σ H Q := h
theorem andV (h : ta σ H fun x H1 => ∃ c, x = .bl c ∧ if c = true then tb σ H1 Q else Q (.bl false) H1) : tAndV ta tb σ H Q := h
theorem orV (h : ta σ H fun x H1 => ∃ c, x = .bl c ∧ if c = true then Q (.bl true) H1 else tb σ H1 Q) : tOrV ta tb σ H Q := h
theorem notV (h : ta σ H fun x H1 => ∃ c, x = .bl c ∧ Q (.bl (!c)) H1) : tNotV ta σ H Q := h
theorem chain {r r' : R2} {tc : TE} (h : ta σ H fun x H1 => tb σ H1 fun y H2 => r x y H2 fun z H3 => ∃ k, z = .bl k ∧ (if k = true then tc σ H3 fun w' H4 => r' y w' H4 Q else Q (.bl false) H3)) : tChain r r' ta tb tc σ H Q := h
theorem tupL {p : Addr} {ys : List V} (h : SqL K H p ys) (q : Mt H ys Q) : rTupQ K [.ref p] H Q := ⟨p, ys, rfl, .inl ⟨h, fun l n => q _ l (same_upd n) n upd_same⟩⟩
theorem lstL {p : Addr} {ys : List V} (h : SqL K H p ys) (q : Ml H ys Q) : rListQ K [.ref p] H Q := ⟨p, ys, rfl, .inl h, fun l n => q _ l (same_upd n) n upd_same⟩
theorem cat {l b : Addr} {xs zs : List V} (h1 : H l = some (.lst xs)) (h2 : H b = some (.lst zs)) (z : Nat.ble (xs.length + zs.length) 100000 = true) (q : Ml H (xs ++ zs) Q) : rCat (.ref l) (.ref b) H Q :=
  ⟨l, b, xs, zs, rfl, rfl, h1, h2, Nat.le_of_lt (Nat.lt_of_le_of_lt (Nat.le_of_ble_eq_true z) (by decide)), fun p n => q _ p (same_upd n) n upd_same⟩
theorem sl {r : V → Option Int → Option Int → Hp → VK → Prop} {tl th : TO} (h : te σ H fun x H1 => tl σ H1 fun l H2 => th σ H2 fun u H3 => r x l u H3 Q) : tSl r te tl th σ H Q := h
theorem noPart {Q : Option Int → Hp → Prop} (h : Q none H) : tNoPart σ H Q := h
theorem part {Q : Option Int → Hp → Prop} (h : te σ H fun x H1 => ∃ i, x = .int i ∧ Q (some i) H1) : tPart te σ H Q := h
theorem isInt {P : Int → Prop} (h : P i) : ∃ k, V.int i = .int k ∧ P k := ⟨i, rfl, h⟩
theorem slL {a : Addr} {xs : List V} {lo hi : Option Int} (h : SqL K H a xs) (q : Ml H (cutV xs lo hi) Q) : rSlL K (.ref a) lo hi H Q := ⟨a, xs, rfl, h, fun p n => q _ p (same_upd n) n upd_same⟩
theorem absI (q : Q (.int (i.natAbs : Int)) H) : rAbs K [.int i] H Q := ⟨i, rfl, q⟩
theorem intI (q : Q (.int i) H) : rInt K [.int i] H Q := .inl ⟨i, rfl, q⟩
theorem intB {b : Bool} (q : Q (.int (if b then 1 else 0)) H) : rInt K [.bl b] H Q := .inr ⟨b, rfl, q⟩
theorem lenT {p : Addr} {ys : List V} (h : SqT K H p ys) (q : Q (.int (ys.length : Int)) H) : rLenQ K [.ref p] H Q := ⟨p, ys, rfl, .inr h, q⟩
theorem lenL {p : Addr} {ys : List V} (h : SqL K H p ys) (q : Q (.int (ys.length : Int)) H) : rLenQ K [.ref p] H Q := ⟨p, ys, rfl, .inl h, q⟩
theorem eqS {a b : Str} (q : Q (.bl (decide (V.str a = V.str b))) H) : rEq (.str a) (.str b) H Q := ⟨rfl, q⟩
theorem eqBl {a b : Bool} (q : Q (.bl (decide (V.bl a = V.bl b))) H) : rEq (.bl a) (.bl b) H Q := ⟨rfl, q⟩
theorem neBl {a b : Bool} (q : Q (.bl (!decide (V.bl a = V.bl b))) H) : rNe (.bl a) (.bl b) H Q := ⟨rfl, q⟩
theorem isiTupS {a : Addr} {xs : List V} (h : SqT K H a xs) (q : Q (.bl true) H) : rIsi K [.ref a, .ty "tuple"] H Q := by
  rcases h with (h | ⟨o, h⟩) | ⟨o, its, n, h1, h2, _⟩
  · exact Wc.isiTup h q
  · exact ⟨_, _, _, _, true, rfl, ClsV.ty _, TyX.fTuple h, kit_ty (by decide +kernel), q⟩
  · exact ⟨_, _, _, _, true, rfl, ClsV.ty _, TyX.kTuple h1 h2, kit_ty (by decide +kernel), q⟩
theorem slT {a : Addr} {xs : List V} {lo hi : Option Int} (h : SqT K H a xs) (n : ¬ (HT.sIx xs.length 0 lo = 0 ∧ HT.sIx xs.length xs.length hi = xs.length)) (q : Mt H (cutV xs lo hi) Q) : rSlT K (.ref a) lo hi H Q := ⟨a, xs, rfl, h, n, fun p nn => q _ p (same_upd nn) nn upd_same⟩
theorem isiT {b : Bool} (q : Q (.bl true) H) : rIsi K [.bl b, .ty "bool"] H Q := Wc.isiT q
theorem isiTup {a : Addr} {xs : List V} (h : H a = some (.tup xs)) (q : Q (.bl true) H) : rIsi K [.ref a, .ty "tuple"] H Q := Wc.isiTup h q
theorem isiLst {a : Addr} {xs : List V} (h : H a = some (.lst xs)) (q : Q (.bl true) H) : rIsi K [.ref a, .ty "list"] H Q := Wc.isiLst h q
/-! == of tuples of ints -/
theorem eqB {ns ms : List Int} : PyData.eqv (.tuple (ns.map PyData.int)) (.tuple (ms.map PyData.int)) = decide (ns = ms) := by
  have h : ∀ ns ms : List Int, PyData.eqvAll (ns.map PyData.int) (ms.map PyData.int) = decide (ns = ms) := by
    intro ns
    induction ns with
    | nil => intro ms; cases ms <;> simp [PyData.eqvAll]
    | cons n ns ih => intro ms; cases ms with
      | nil => simp [PyData.eqvAll]
      | cons m ms =>
        rw [List.map_cons, List.map_cons, PyData.eqvAll, ih]
        by_cases h : n = m
        · simp [PyData.eqv, h]
        · simp [PyData.eqv, h]
  rw [PyData.eqv]
  exact h ns ms
theorem eqTs {p q : Addr} {ns ms : List Int} {b : Bool} (h1 : SqT K H p (ns.map V.int)) (h2 : SqT K H q (ms.map V.int)) (hb : b = decide (ns = ms)) (h : Q (.bl b) H) : rEqD K (.ref p) (.ref q) H Q :=
  ⟨_, _, .tup h1 (dp_ints ns), .tup h2 (dp_ints ms), shaped_intsT ns, shaped_intsT ms, by rw [eqB, ← hb]; exact h⟩
theorem neTs {p q : Addr} {ns ms : List Int} {b : Bool} (h1 : SqT K H p (ns.map V.int)) (h2 : SqT K H q (ms.map V.int)) (hb : b = decide (ns = ms)) (h : Q (.bl (!b)) H) : rNeD K (.ref p) (.ref q) H Q :=
  ⟨_, _, .tup h1 (dp_ints ns), .tup h2 (dp_ints ms), shaped_intsT ns, shaped_intsT ms, by rw [eqB, ← hb]; exact h⟩
variable {p q : Addr} {a b c d a' b' c' d' : Int}
theorem eq2 (h1 : SqT K H p [.int a, .int b]) (h2 : SqT K H q [.int a', .int b']) (h : Q (.bl (decide (a = a' ∧ b = b'))) H) : rEqD K (.ref p) (.ref q) H Q :=
  eqTs (ns := [a, b]) (ms := [a', b']) h1 h2 (by simp) h
theorem ne2 (h1 : SqT K H p [.int a, .int b]) (h2 : SqT K H q [.int a', .int b']) (h : Q (.bl (!decide (a = a' ∧ b = b'))) H) : rNeD K (.ref p) (.ref q) H Q :=
  neTs (ns := [a, b]) (ms := [a', b']) h1 h2 (by simp) h
theorem eq3 (h1 : SqT K H p [.int a, .int b, .int c]) (h2 : SqT K H q [.int a', .int b', .int c']) (h : Q (.bl (decide (a = a' ∧ b = b' ∧ c = c'))) H) : rEqD K (.ref p) (.ref q) H Q :=
  eqTs (ns := [a, b, c]) (ms := [a', b', c']) h1 h2 (by simp) h
theorem ne3 (h1 : SqT K H p [.int a, .int b, .int c]) (h2 : SqT K H q [.int a', .int b', .int c']) (h : Q (.bl (!decide (a = a' ∧ b = b' ∧ c = c'))) H) : rNeD K (.ref p) (.ref q) H Q :=
  neTs (ns := [a, b, c]) (ms := [a', b', c']) h1 h2 (by simp) h
theorem eq4 (h1 : SqT K H p [.int a, .int b, .int c, .int d]) (h2 : SqT K H q [.int a', .int b', .int c', .int d']) (h : Q (.bl (decide (a = a' ∧ b = b' ∧ c = c' ∧ d = d'))) H) : rEqD K (.ref p) (.ref q) H Q :=
  eqTs (ns := [a, b, c, d]) (ms := [a', b', c', d']) h1 h2 (by simp) h
theorem ne4 (h1 : SqT K H p [.int a, .int b, .int c, .int d]) (h2 : SqT K H q [.int a', .int b', .int c', .int d']) (h : Q (.bl (!decide (a = a' ∧ b = b' ∧ c = c' ∧ d = d'))) H) : rNeD K (.ref p) (.ref q) H Q :=
  neTs (ns := [a, b, c, d]) (ms := [a', b', c', d']) h1 h2 (by simp) h
/-! loops over ranges, comprehensions -/
def ForJ (J : It) (g : TG) (tb : TS) (D : Ends) (σ : L2.St) (H1 : Hp) : Prop := tFor (fun _ Hs R => R J Hs) g tb D σ H1
theorem forE {wi : TI} {g : TG} {tb : TS} {D : Ends} (h : wi σ H fun J H1 => ForJ J g tb D σ H1) : tFor wi g tb D σ H := h
def RgOne (vs : List V) (P : Int → Prop) : Prop := ∃ j : Int, vs = [.int j] ∧ -(2 ^ 62) ≤ j ∧ j < 2 ^ 62 ∧ P j
def RgTwo (vs : List V) (P : Int → Int → Prop) : Prop := ∃ i j : Int, vs = [.int i, .int j] ∧ (-(2 ^ 62) ≤ i ∧ i < 2 ^ 62 ∧ -(2 ^ 62) ≤ j ∧ j < 2 ^ 62) ∧ P i j
theorem rng1 {ta : TA} {R : It → Hp → Prop} (h : ta σ H fun vs H1 => RgOne vs fun j => R (Itr 0 j.toNat) H1) : iRng1 ta σ H R := h
theorem rng2 {ta : TA} {R : It → Hp → Prop} (h : ta σ H fun vs H1 => RgTwo vs fun i j => R (Itr i (j - i).toNat) H1) : iRng2 ta σ H R := h
theorem rg1 {P : Int → Prop} {j : Int} (h1 : -(2 ^ 62) ≤ j) (h2 : j < 2 ^ 62) (h : P j) : RgOne [.int j] P := ⟨j, rfl, h1, h2, h⟩
theorem rg2 {P : Int → Int → Prop} {i j : Int} (h1 : -(2 ^ 62) ≤ i) (h2 : i < 2 ^ 62) (h3 : -(2 ^ 62) ≤ j) (h4 : j < 2 ^ 62) (h : P i j) : RgTwo [.int i, .int j] P := ⟨i, j, rfl, ⟨h1, h2, h3, h4⟩, h⟩
theorem forN {lo : Int} {n : Nat} {g : TG} {tb : TS} {D : Ends} (Pv : Nat → L2.St → Hp → Prop) (h0 : Pv 0 σ H)
    (hs : ∀ i σ H, i < n → Pv i σ H → g (.int (lo + i)) σ H fun σ2 H2 => tb (Ends.mk (Pv (i + 1)) D.rt D.nx (Pv (i + 1))) σ2 H2) (hd : ∀ σ H, Pv n σ H → D.nx σ H) : ForJ (Itr lo n) g tb D σ H := for_range Pv h0 hs hd
def RefOne (v : V) (P : Addr → Prop) : Prop := ∃ a, v = .ref a ∧ P a
theorem itup {tl : TE} {R : It → Hp → Prop} (h : tl σ H fun x H1 => ∃ a, x = .ref a ∧ (∃ xs, SqT K H1 a xs) ∧ R (Itt K a) H1) : iTup K tl σ H R := h
theorem ilst {tl : TE} {R : It → Hp → Prop} (h : tl σ H fun x H1 => ∃ a, x = .ref a ∧ (∃ xs, SqL K H1 a xs) ∧ R (Itl K a) H1) : iList K tl σ H R := h
theorem refs {p : Addr} {xs : List V} {S : Addr → List V → Prop} {R : Addr → Prop} (h1 : S p xs) (h : R p) : ∃ a, V.ref p = .ref a ∧ (∃ ys, S a ys) ∧ R a := ⟨p, rfl, ⟨xs, h1⟩, h⟩
def LcJ (J : It) (g : TG) (tt : TT) (te : TE) (vs : List Nat) (σ : L2.St) (H1 : Hp) (Q : VK) : Prop := tLc (fun _ Hs R => R J Hs) g tt te vs σ H1 Q
theorem lcE {wi : TI} {g : TG} {tt : TT} {vs : List Nat} (h : wi σ H fun J H1 => LcJ J g tt te vs σ H1 Q) : tLc wi g tt te vs σ H Q := h
/-- [int for k in range(n)], each of them by c draws -/
theorem lcI {p a : Addr} {N c n : Nat} {lo : Int} {g : TG} {vs : List Nat} (P : Int → Prop) (hn : n ≤ 900) (d : Dw H p a N)
    (hs : ∀ i H' (Q' : VK), i < n → Dw H' p a (N + c * i) → Kp p H H' → (∀ x H4, P x → Dw H4 p a (N + c * i + c) → Kp p H' H4 → Q' (.int x) H4) → g (.int (lo + i)) (wipe σ vs) H' fun σ2 H2 => wipe σ2 vs = wipe σ vs ∧ te σ2 H2 Q')
    (hq : ∀ H' D (xs : List Int), H' D = some (.lst (xs.map V.int)) → xs.length = n → (∀ x ∈ xs, P x) → Dw H' p a (N + c * n) → Kp p H H' → H D = none → D ≠ p → Q (.ref D) H') : LcJ (Itr lo n) g tYes te vs σ H Q := by
  intro D nD
  have Dp := (d.ne nD).1
  have Da := (d.ne nD).2
  refine lc_range (lo := lo) (n := n) (fun i H' => ∃ xs : List Int, H' D = some (.lst (xs.map V.int)) ∧ xs.length = i ∧ (∀ x ∈ xs, P x) ∧ Dw H' p a (N + c * i) ∧ Kp p H H')
    ⟨[], upd_same, rfl, (fun x h => nomatch h), (d.new nD).mono (by omega), same_kp (same_upd nD)⟩ (fun i H5 hi ⟨xs, h1, h2, h3, h4, h5⟩ => ?_) (fun H5 ⟨xs, h1, h2, h3, h4, h5⟩ => hq H5 D xs h1 h2 h3 h4 h5 nD Dp)
  refine hs i H5 _ hi h4 h5 (fun x H4 px d4 k4 => ⟨_, k4 _ _ Dp h1, ?_, xs ++ [x], ?_, ?_, ?_, ?_, ?_⟩)
  · rw [List.length_map]
    exact small1000 (by omega)
  · rw [upd_same, List.map_append]
    rfl
  · rw [List.length_append, h2]
    rfl
  · intro z hz
    rcases List.mem_append.mp hz with hz | hz
    · exact h3 z hz
    · rw [List.mem_singleton.mp hz]
      exact px
  · have e : N + c * (i + 1) = N + c * i + c := by rw [Nat.mul_add, Nat.mul_one, Nat.add_assoc]
    rw [e]
    exact d4.mut Dp Da
  · intro b o hb e
    have e2 := k4 _ _ hb (h5 _ _ hb e)
    rw [upd_ne (ne_of_none e nD)]
    exact e2
/-- [f(x) for x in a tuple (a list) of ints] -/
theorem lcT {a : Addr} {ns : List Int} {g : TG} {vs : List Nat} (f : Int → Int) (hl : ns.length ≤ 900) (hT : SqT K H a (ns.map V.int))
    (hs : ∀ n H' (Q' : VK), n ∈ ns → Same H H' → Q' (.int (f n)) H' → g (.int n) (wipe σ vs) H' fun σ2 H2 => wipe σ2 vs = wipe σ vs ∧ te σ2 H2 Q')
    (hq : ∀ H' D, H' D = some (.lst ((ns.map f).map V.int)) → Same H H' → H D = none → Q (.ref D) H') : LcJ (Itt K a) g tYes te vs σ H Q := by
  intro D nD
  refine lc_tup (K := K) (a := a) (xs := ns.map V.int) (fun i H' => H' D = some (.lst (((ns.take i).map f).map V.int)) ∧ Same H H') ⟨upd_same, same_upd nD⟩ (fun i H' _ h => same_seqT h.2 hT) (fun i x H5 hx ⟨h1, h5⟩ => ?_) (fun H5 ⟨h1, h5⟩ => ?_)
  · rw [List.getElem?_map] at hx
    cases hn : ns[i]? with
    | none =>
      rw [hn] at hx
      cases hx
    | some n =>
      rw [hn] at hx
      cases hx
      refine hs n H5 _ (List.mem_of_getElem? hn) h5 ⟨_, h1, ?_, ?_, ?_⟩
      · rw [List.length_map, List.length_map, List.length_take]
        exact small1000 (by omega)
      · rw [upd_same, List.take_add_one, hn, List.map_append, List.map_append]
        rfl
      · exact same_mut h5 nD
  · rw [List.length_map, List.take_length] at h1
    exact hq H5 D h1 h5 nD
end
theorem isEq {α : Sort _} {a b : α} (h : a = b) : a = b := h
theorem bm {σ : L2.St} {H : Hp} {Q : VK} {T : String} {r : V → List V → Hp → VK → Prop} {to : TE} {t : TA} {K : PySem.W.Frag} (h : to σ H fun x H1 => tyV K T x H1 ∧ t σ H1 fun xs H2 => r x xs H2 Q) : tBM K T r to t σ H Q := h
theorem bmT {H : Hp} {K : PySem.W.Frag} {p : Addr} {xs : List V} {B : Prop} (h1 : H p = some (.lst xs)) (h2 : B) : tyV K "list" (.ref p) H ∧ B := ⟨.inl ⟨rfl, _, SqL.of h1⟩, h2⟩
theorem app {H : Hp} {Q : VK} {l : Addr} {xs : List V} {y : V} (h : H l = some (.lst xs)) (z : xs.length ≤ 1000000) (q : ∀ H', H' = upd H l (.lst (xs ++ [y])) → H' l = some (.lst (xs ++ [y])) → Q .non H') : rAppend (.ref l) [y] H Q :=
  ⟨l, xs, y, rfl, rfl, h, Nat.lt_of_le_of_lt z (by decide), q _ rfl upd_same⟩
theorem dput {σ : L2.St} {H : Hp} {td ty tv : TE} {nx : L2.St → Hp → Prop} {rt : VK} {bk ct : L2.St → Hp → Prop} (h : tv σ H fun v H1 => td σ H1 fun x H2 => ty σ H2 fun y H3 => ∃ a H4, x = .ref a ∧ DPut H3 a y v H4 ∧ nx σ H4) : sDPut td ty tv (Ends.mk nx rt bk ct) σ H := h
theorem dget {σ : L2.St} {H : Hp} {Q : VK} {td ty : TE} (h : td σ H fun x H1 => ty σ H1 fun y H2 => ∃ a v, x = .ref a ∧ DGet H2 a y (some v) ∧ Q v H2) : tDGet td ty σ H Q := h
theorem din {σ : L2.St} {H : Hp} {Q : VK} {td ty : TE} (h : ty σ H fun y H1 => td σ H1 fun x H2 => ∃ a o, x = .ref a ∧ DGet H2 a y o ∧ Q (.bl o.isSome) H2) : tDIn ty td σ H Q := h
theorem dget2 {σ : L2.St} {H : Hp} {Q : VK} {td ty tx : TE} (h : td σ H fun x H1 => ∃ a, x = .ref a ∧ IsD H1 a ∧ ty σ H1 fun y H2 => tx σ H2 fun z H3 => ∃ o, DGet H3 a y o ∧ Q (o.getD z) H3) : tDGet2 td ty tx σ H Q := h
/-! slots behind many stores -/
def LenOk (n : Nat) (σ : L2.St) : Prop := n < σ.length
theorem lenS {n m : Nat} {σ : L2.St} {x : Option V} (h : LenOk n σ) : LenOk n (σ.set m x) := by
  unfold LenOk at *
  rw [List.length_set]
  exact h
theorem lenB {n : Nat} {σ : L2.St} (h : Nat.ble (n + 1) σ.length = true) : LenOk n σ := Nat.le_of_ble_eq_true h
theorem gsE {n : Nat} {σ : L2.St} {x r : Option V} (h : LenOk n σ) (e : some x = some r) : (σ.set n x)[n]? = some r := by
  rw [List.getElem?_set_self h]
  exact e
theorem gsN {n m : Nat} {σ : L2.St} {x : Option V} {r : Option (Option V)} (h : Nat.beq m n = false) (e : σ[n]? = r) : (σ.set m x)[n]? = r := by
  rw [List.getElem?_set_ne (fun z => by rw [z, Nat.beq_refl] at h; cases h)]
  exact e
theorem isLeI {a b : Int} (h : a ≤ b) : a ≤ b := h
theorem cdiv {i j : Int} (h : decide (0 < j ∧ j < 1073741824) = true) : CDiv i j := of_decide_eq_true (p := 0 < j ∧ j < 1073741824) h
theorem cpow {i j : Int} (h : decide (0 ≤ j ∧ j ≤ 1000000 ∧ i.natAbs < 2 ^ 64) = true) : CPow i j := of_decide_eq_true (p := 0 ≤ j ∧ j ≤ 1000000 ∧ i.natAbs < 2 ^ 64) h
theorem notT {A B : Prop} (h : B) : if (!true) = true then A else B := h
theorem notF {A B : Prop} (h : A) : if (!false) = true then A else B := h
theorem isNe {α : Sort _} {a b : α} (h : a ≠ b) : a ≠ b := h
theorem cdivX {n : Nat} {i j : Int} (h1 : j ≠ 0) (h2 : Bd n j) (l : Nat.ble n 9000 = true) : CDivX i j := ⟨h1, Nat.lt_of_lt_of_le h2 (Nat.pow_le_pow_right (by decide) (Nat.le_of_ble_eq_true l))⟩
theorem isLe {a b : Nat} (h : a ≤ b) : a ≤ b := h
theorem isLtI {a b : Int} (h : a < b) : a < b := h
theorem isLt {a b : Nat} (h : a < b) : a < b := h
end R
/-! unpacking of a list -/
theorem pgU {X : Cx} (K : PySem.W.Frag) (n : Nat) {es : List Expr} {k : Nat} {pos : Pos} {t : TGs} (hc : X.calm = true) (h : PGs X es t) (hn : (assignEach es X.env).length = n := by rfl) (hst : (assignEach es X.env).findIdx? (·.1) = none := by rfl) (hK : X.K = K := by rfl) : PG X (.Tuple es k pos) (gUnl K n t) := by
  subst hK
  exact pg_unl hc h hn hst
theorem r_gunl {K : PySem.W.Frag} {σ : L2.St} {H : Hp} {n : Nat} {t : TGs} {a : Addr} {xs : List V} {Q : L2.St → Hp → Prop} (h1 : SqL K H a xs) (h2 : xs.length = n) (h : t xs σ H Q) : gUnl K n t (.ref a) σ H Q := ⟨a, xs, rfl, h1, h2, h⟩

/-! ### lists of tuples of ints -/
def tD (t : List Int) : PyData := .tuple (t.map PyData.int)
inductive Tps (K : PySem.W.Frag) (H : Hp) : List V → List (List Int) → Prop where
  | nil : Tps K H [] []
  | cons {a : Addr} {t : List Int} {vs : List V} {ts : List (List Int)} : SqT K H a (t.map V.int) → Tps K H vs ts → Tps K H (.ref a :: vs) (t :: ts)
theorem Tps.kt {K : PySem.W.Frag} {H H' : Hp} (s : KT K H H') : ∀ {vs : List V} {ts : List (List Int)}, Tps K H vs ts → Tps K H' vs ts
  | _, _, .nil => .nil
  | _, _, .cons h t => .cons (s _ _ h) (t.kt s)
theorem Tps.same {K : PySem.W.Frag} {H H' : Hp} {vs : List V} {ts : List (List Int)} (h : Tps K H vs ts) (s : Same H H') : Tps K H' vs ts := h.kt (same_kt s)
theorem Tps.len {K : PySem.W.Frag} {H : Hp} : ∀ {vs : List V} {ts : List (List Int)}, Tps K H vs ts → vs.length = ts.length
  | _, _, .nil => rfl
  | _, _, .cons _ t => by rw [List.length_cons, List.length_cons, t.len]
theorem Tps.app {K : PySem.W.Frag} {H : Hp} : ∀ {vs ws : List V} {ts us : List (List Int)}, Tps K H vs ts → Tps K H ws us → Tps K H (vs ++ ws) (ts ++ us)
  | _, _, _, _, .nil, h => h
  | _, _, _, _, .cons a t, h => .cons a (t.app h)
theorem Tps.snoc {K : PySem.W.Frag} {H : Hp} {vs : List V} {ts : List (List Int)} {a : Addr} {t : List Int} (h : Tps K H vs ts) (s : SqT K H a (t.map V.int)) : Tps K H (vs ++ [.ref a]) (ts ++ [t]) := h.app (.cons s .nil)
theorem Tps.at {K : PySem.W.Frag} {H : Hp} : ∀ {vs : List V} {ts : List (List Int)} {i : Nat} {x : V}, Tps K H vs ts → vs[i]? = some x → ∃ a t, x = .ref a ∧ ts[i]? = some t ∧ SqT K H a (t.map V.int)
  | _, _, _, _, .nil, h => by cases h
  | _, _, 0, _, .cons s t, h => by
    cases h
    exact ⟨_, _, rfl, rfl, s⟩
  | _, _, i + 1, _, .cons s t, h => t.at (i := i) h
theorem Tps.dp {K : PySem.W.Frag} {H : Hp} : ∀ {vs : List V} {ts : List (List Int)}, Tps K H vs ts → DpAll K H vs (ts.map tD)
  | _, _, .nil => .nil
  | _, _, .cons h t => .cons (.tup h (dp_ints _)) t.dp
theorem lay_tups : ∀ ts : List (List Int), PyData.canLayAll0 (ts.map tD) = true
  | [] => rfl
  | t :: ts => by
    rw [List.map_cons, PyData.canLayAll0, lay_tups ts]
    unfold tD
    rw [PyData.canLay0, lay_ints]
    rfl
theorem depth_tups : ∀ ts : List (List Int), PyData.depthAll (ts.map tD) ≤ 1
  | [] => by rw [List.map_nil, PyData.depthAll]; decide
  | t :: ts => by
    rw [List.map_cons, PyData.depthAll]
    unfold tD
    rw [PyData.depth, depth_ints]
    exact Nat.max_le.mpr ⟨by decide, depth_tups ts⟩
theorem shaped_tups (ts : List (List Int)) : SeqAt.shaped (.list (ts.map tD)) = true := by
  show (PyData.canLay0 (.list (ts.map tD)) && decide (PyData.depth (.list (ts.map tD)) ≤ 64)) = true
  rw [Bool.and_eq_true]
  refine ⟨by rw [PyData.canLay0]; exact lay_tups ts, decide_eq_true ?_⟩
  rw [PyData.depth]
  have := depth_tups ts
  omega
theorem shaped_tupsT (ts : List (List Int)) : SeqAt.shaped (.tuple (ts.map tD)) = true := by
  show (PyData.canLay0 (.tuple (ts.map tD)) && decide (PyData.depth (.tuple (ts.map tD)) ≤ 64)) = true
  rw [Bool.and_eq_true]
  refine ⟨by rw [PyData.canLay0]; exact lay_tups ts, decide_eq_true ?_⟩
  rw [PyData.depth]
  have := depth_tups ts
  omega
theorem eqvAll_tups : ∀ ts us : List (List Int), PyData.eqvAll (ts.map tD) (us.map tD) = decide (ts = us)
  | [], [] => by simp [PyData.eqvAll]
  | [], _ :: _ => by simp [PyData.eqvAll]
  | _ :: _, [] => by simp [PyData.eqvAll]
  | t :: ts, u :: us => by
    rw [List.map_cons, List.map_cons, PyData.eqvAll, eqvAll_tups ts us]
    unfold tD
    rw [R.eqB]
    by_cases h : t = u <;> simp [h]
theorem any_tups (t : List Int) : ∀ ts : List (List Int), (ts.map tD).any (fun z => PyData.eqv z (tD t)) = decide (t ∈ ts)
  | [] => by simp
  | u :: ts => by
    rw [List.map_cons, List.any_cons, any_tups t ts]
    have e : PyData.eqv (tD u) (tD t) = decide (u = t) := R.eqB
    rw [e]
    by_cases h : u = t
    · subst h
      simp
    · have h2 : ¬ t = u := fun z => h z.symm
      by_cases h3 : t ∈ ts <;> simp [h, h2, h3]
namespace R
theorem eqTps {K : PySem.W.Frag} {H : Hp} {Q : VK} {p q : Addr} {vs ws : List V} {ts us : List (List Int)} (h1 : SqL K H p vs) (t1 : Tps K H vs ts) (h2 : SqL K H q ws) (t2 : Tps K H ws us) (h : Q (.bl (decide (ts = us))) H) : rEqD K (.ref p) (.ref q) H Q := by
  refine ⟨_, _, .lst h1 t1.dp, .lst h2 t2.dp, shaped_tups _, shaped_tups _, ?_⟩
  rw [PyData.eqv, eqvAll_tups]
  exact h
theorem neTps {K : PySem.W.Frag} {H : Hp} {Q : VK} {p q : Addr} {vs ws : List V} {ts us : List (List Int)} (h1 : SqL K H p vs) (t1 : Tps K H vs ts) (h2 : SqL K H q ws) (t2 : Tps K H ws us) (h : Q (.bl (!decide (ts = us))) H) : rNeD K (.ref p) (.ref q) H Q := by
  refine ⟨_, _, .lst h1 t1.dp, .lst h2 t2.dp, shaped_tups _, shaped_tups _, ?_⟩
  rw [PyData.eqv, eqvAll_tups]
  exact h
theorem notInT {K : PySem.W.Frag} {H : Hp} {Q : VK} {p q : Addr} {vs : List V} {t : List Int} {ts : List (List Int)} (h1 : SqT K H p (t.map V.int)) (h2 : SqL K H q vs) (t2 : Tps K H vs ts) (h : Q (.bl (!decide (t ∈ ts))) H) : rNotInD K (.ref p) (.ref q) H Q := by
  refine ⟨_, _, .tup h1 (dp_ints _), .lst h2 t2.dp, shaped_intsT _, shaped_tups _, ?_⟩
  have e := any_tups t ts
  unfold tD at e
  rw [show (ts.map tD) = ts.map fun t => .tuple (t.map PyData.int) from rfl, e]
  exact h
theorem inT {K : PySem.W.Frag} {H : Hp} {Q : VK} {p q : Addr} {vs : List V} {t : List Int} {ts : List (List Int)} (h1 : SqT K H p (t.map V.int)) (h2 : SqL K H q vs) (t2 : Tps K H vs ts) (h : Q (.bl (decide (t ∈ ts))) H) : rInD K (.ref p) (.ref q) H Q := by
  refine ⟨_, _, .tup h1 (dp_ints _), .lst h2 t2.dp, shaped_intsT _, shaped_tups _, ?_⟩
  have e := any_tups t ts
  unfold tD at e
  rw [show (ts.map tD) = ts.map fun t => .tuple (t.map PyData.int) from rfl, e]
  exact h
end R
theorem room65 {k : Nat} {A : Around} (r : Room k A) : A.units + 65 < cLine := by
  have := r.un
  omega
theorem notInDQ {X : Cx} (K : PySem.W.Frag) (hu : X.A.units + 65 < cLine) (h : X.K = K := by rfl) : OpR X (compareOp .NotIn) (rNotInD K) := by
  subst h
  exact op_notInD hu
theorem inDQ {X : Cx} (K : PySem.W.Frag) (hu : X.A.units + 65 < cLine) (h : X.K = K := by rfl) : OpR X (compareOp .In) (rInD K) := by
  subst h
  exact op_inD hu

/-! ### whole roots -/
section
variable {X : Cx}
theorem cr_isqrt : CallR X (.builtin "math.isqrt") (fun vs H Q => ∃ i : Int, vs = [.int i] ∧ 0 ≤ i ∧ i.natAbs < 2 ^ 13000 ∧ Q (.int ((Float64.isqrt i.toNat : Nat) : Int)) H) := by
  intro pins s σ H vs us Q I r h
  obtain ⟨i, rfl, h0, h1, q⟩ := h
  obtain ⟨u, rfl, t, rfl⟩ := vals1 r
  have hl : i.toNat.log2 < 13000 := PySem.Flt.log2_lt_of (by decide) (by omega)
  exact call_function_meets PySem.W.MGF.kind_isqrt PySem.W.MGF.plain_isqrt PySem.W.MGF.entry_isqrt (PySem.W.MGF.args_isqrt _) (PySem.W.mg_run_isqrt i t (by omega) (by omega) (by omega)).meets ⟨.int _, H, I.tok _, ⟨_, rfl⟩, q⟩
end
def rootI (n : Int) : Int := ((Float64.isqrt n.toNat : Nat) : Int)
theorem rootI_spec {n : Int} (h : 0 ≤ n) : 0 ≤ rootI n ∧ rootI n * rootI n ≤ n ∧ n < (rootI n + 1) * (rootI n + 1) := by
  obtain ⟨k, rfl⟩ := Int.eq_ofNat_of_zero_le h
  have e := Float64.isqrt_spec k
  unfold rootI
  have e2 : Int.toNat (k : Int) = k := rfl
  rw [e2]
  generalize Float64.isqrt k = m at e ⊢
  refine ⟨Int.natCast_nonneg m, ?_, ?_⟩
  · exact_mod_cast e.1
  · exact_mod_cast e.2
theorem rootI_lt {n : Int} {b : Nat} (h : 0 ≤ n) (hb : n.natAbs < 2 ^ b) : (rootI n).natAbs < 2 ^ b := by
  obtain ⟨h0, h1, h2⟩ := rootI_spec h
  have h3 : rootI n ≤ n := by
    by_cases e : rootI n = 0
    · omega
    · have h4 : 1 * rootI n ≤ rootI n * rootI n := Int.mul_le_mul_of_nonneg_right (by omega) h0
      omega
  omega
/-! ### common measures -/
def gI (a b : Int) : Int := ((Nat.gcd a.natAbs b.natAbs : Nat) : Int)
theorem gI_nn (a b : Int) : 0 ≤ gI a b := Int.natCast_nonneg _
theorem gI_lt {a b : Int} {B : Nat} (ha : a.natAbs < B) (hb : b.natAbs < B) : (gI a b).natAbs < B := by
  unfold gI
  rw [Int.natAbs_natCast]
  by_cases h : a.natAbs = 0
  · rw [h, Nat.gcd_zero_left]
    exact hb
  · exact Nat.lt_of_le_of_lt (Nat.gcd_le_left _ (by omega)) ha
def gL (ns : List Int) : Int := ns.foldl gI 0
theorem gL_take {ns : List Int} {i : Nat} {x : Int} (h : ns[i]? = some x) : gL (ns.take (i + 1)) = gI (gL (ns.take i)) x := by
  unfold gL
  rw [List.take_add_one, h, List.foldl_append]
  rfl
/-- one step of the walk of measures: what // and the rest are -/
theorem fd_rest {g r : Int} (h : r ≠ 0) : (g - g.fdiv r * r).natAbs < r.natAbs ∧ (0 < r → 0 ≤ g - g.fdiv r * r) ∧ (r < 0 → g - g.fdiv r * r ≤ 0) := by
  have e : g - g.fdiv r * r = g.fmod r := by
    rw [Int.fmod_def, Int.mul_comm]
  rw [e]
  by_cases hr : 0 < r
  · have h1 := Int.fmod_nonneg_of_pos g hr
    have h2 := Int.fmod_lt_of_pos g hr
    refine ⟨by omega, fun _ => h1, fun _ => by omega⟩
  · have h1 := Int.fmod_nonneg_of_pos (-g) (b := -r) (by omega)
    have h2 := Int.fmod_lt_of_pos (-g) (b := -r) (by omega)
    rw [Int.neg_fmod_neg] at h1 h2
    refine ⟨by omega, fun _ => by omega, fun _ => by omega⟩
theorem gcd_step (g q r : Int) : Nat.gcd r.natAbs (g - q * r).natAbs = Nat.gcd g.natAbs r.natAbs := by
  have e1 : Int.gcd r (g - q * r) = Int.gcd r g := by
    rw [Int.sub_eq_add_neg, ← Int.neg_mul]
    exact Int.gcd_add_mul_right_right ..
  have e2 : Int.gcd r g = Int.gcd g r := Int.gcd_comm r g
  exact e1.trans e2
theorem step_lt {g rest u ru q r B : Nat} (hg : g = q * rest + r) (h : ru * g + u * rest ≤ B) : (u + q * ru) * rest + ru * r ≤ B := by
  have e : (u + q * ru) * rest + ru * r = ru * g + u * rest := by
    rw [hg, Nat.add_mul, Nat.mul_add, Nat.mul_comm q ru, Nat.mul_assoc]
    omega
  omega
/-- the state of bezout's walk -/
def Bz (a b g u v r ru rv : Int) : Prop := u * a + v * b = g ∧ ru * a + rv * b = r ∧ (((Nat.gcd g.natAbs r.natAbs : Nat) : Int) = gI a b ∧ u.natAbs ≤ a.natAbs + 2 * b.natAbs + 1 ∧ v.natAbs ≤ a.natAbs + 2 * b.natAbs + 1) ∧
  ((g = a ∧ r = b ∧ u = 1 ∧ v = 0 ∧ ru = 0 ∧ rv = 1) ∨
    (((0 ≤ g ∧ 0 ≤ r) ∨ (g ≤ 0 ∧ r ≤ 0)) ∧ g.natAbs ≤ b.natAbs ∧ r.natAbs < g.natAbs ∧
      ru.natAbs * g.natAbs + u.natAbs * r.natAbs ≤ a.natAbs + 2 * b.natAbs ∧ rv.natAbs * g.natAbs + v.natAbs * r.natAbs ≤ a.natAbs + 2 * b.natAbs))
theorem same_div {g r : Int} (h : (0 ≤ g ∧ 0 < r) ∨ (g ≤ 0 ∧ r < 0)) : g.natAbs = (g.fdiv r).natAbs * r.natAbs + (g - g.fdiv r * r).natAbs := by
  have hr : r ≠ 0 := by omega
  obtain ⟨h1, h2, h3⟩ := fd_rest (g := g) hr
  have hq : 0 ≤ g.fdiv r := by
    rcases h with ⟨a, b⟩ | ⟨a, b⟩
    · exact Int.fdiv_nonneg a (by omega)
    · rw [← Int.neg_fdiv_neg]
      exact Int.fdiv_nonneg (by omega) (by omega)
  obtain ⟨q, e⟩ := Int.eq_ofNat_of_zero_le hq
  rw [e] at h2 h3 ⊢
  rcases h with ⟨a, b⟩ | ⟨a, b⟩
  · have k := h2 b
    have z : g = (q : Int) * r + (g - (q : Int) * r) := by omega
    obtain ⟨r', rfl⟩ := Int.eq_ofNat_of_zero_le (show 0 ≤ r by omega)
    have e2 : ((q * r' : Nat) : Int) = (q : Int) * (r' : Int) := Int.natCast_mul q r'
    rw [Int.natAbs_natCast, Int.natAbs_natCast]
    rw [← e2] at k ⊢
    omega
  · have k := h3 b
    obtain ⟨r', hr'⟩ := Int.eq_ofNat_of_zero_le (show 0 ≤ -r by omega)
    have er : r = -(r' : Int) := by omega
    subst er
    have e2 : ((q * r' : Nat) : Int) = (q : Int) * (r' : Int) := Int.natCast_mul q r'
    rw [Int.mul_neg, ← e2] at k ⊢
    rw [Int.natAbs_natCast, Int.natAbs_neg, Int.natAbs_natCast]
    omega
theorem abs_sub_mul (u q ru : Int) : (u - q * ru).natAbs ≤ u.natAbs + q.natAbs * ru.natAbs := by
  rw [← Int.natAbs_mul]
  omega
theorem Bz.size {a b g u v r ru rv : Int} (h : Bz a b g u v r ru rv) (hr : r ≠ 0) : (g.fdiv r).natAbs ≤ a.natAbs + b.natAbs + 1 ∧ r.natAbs ≤ b.natAbs ∧ ru.natAbs ≤ a.natAbs + 2 * b.natAbs + 1 ∧ rv.natAbs ≤ a.natAbs + 2 * b.natAbs + 1 := by
  obtain ⟨h1, h2, h3, h4⟩ := h
  obtain ⟨k1, k2, k3⟩ := fd_rest (g := g) hr
  have z2 : (g.fdiv r).natAbs * r.natAbs ≤ g.natAbs + r.natAbs := by
    rw [← Int.natAbs_mul]
    omega
  have z3 : (g.fdiv r).natAbs ≤ g.natAbs + 1 := by
    by_cases z : (g.fdiv r).natAbs ≤ g.natAbs + 1
    · exact z
    · have z4 : (g.natAbs + 2) * r.natAbs ≤ (g.fdiv r).natAbs * r.natAbs := Nat.mul_le_mul_right _ (by omega)
      have z5 : g.natAbs * 1 ≤ g.natAbs * r.natAbs := Nat.mul_le_mul_left _ (by omega)
      rw [Nat.add_mul] at z4
      omega
  rcases h4 with ⟨e1, e2, e3, e4, e5, e6⟩ | ⟨e1, e2, e3, e4, e5⟩
  · rw [e5, e6]
    refine ⟨?_, ?_, ?_, ?_⟩ <;> first | omega | (subst e1 e2; omega)
  · have z4 : ru.natAbs * 1 ≤ ru.natAbs * g.natAbs := Nat.mul_le_mul_left _ (by omega)
    have z5 : rv.natAbs * 1 ≤ rv.natAbs * g.natAbs := Nat.mul_le_mul_left _ (by omega)
    refine ⟨by omega, by omega, by omega, by omega⟩
theorem Bz.step {a b g u v r ru rv : Int} (h : Bz a b g u v r ru rv) (hr : r ≠ 0) : Bz a b r ru rv (g - g.fdiv r * r) (u - g.fdiv r * ru) (v - g.fdiv r * rv) := by
  have sz := h.size hr
  obtain ⟨h1, h2, h3, h4⟩ := h
  obtain ⟨k1, k2, k3⟩ := fd_rest (g := g) hr
  refine ⟨h2, ?_, ⟨by rw [gcd_step]; exact h3.1, sz.2.2⟩, .inr ⟨?_, ?_, k1, ?_, ?_⟩⟩
  · rw [← h1, ← h2]
    generalize (u * a + v * b).fdiv (ru * a + rv * b) = q
    rw [Int.sub_mul, Int.sub_mul, Int.mul_add, Int.mul_assoc, Int.mul_assoc]
    omega
  · by_cases z : 0 < r
    · exact .inl ⟨by omega, k2 z⟩
    · exact .inr ⟨by omega, k3 (by omega)⟩
  · rcases h4 with ⟨e1, e2, _⟩ | ⟨_, e2, e3, _⟩
    · rw [e2]
      omega
    · omega
  · rcases h4 with ⟨e1, e2, e3, e4, e5, e6⟩ | ⟨e1, e2, e3, e4, e5⟩
    · rw [e3, e5, e2]
      simp
      omega
    · refine Nat.le_trans (Nat.add_le_add_right (Nat.mul_le_mul_right _ (abs_sub_mul u (g.fdiv r) ru)) _) (step_lt (same_div ?_) e4)
      omega
  · rcases h4 with ⟨e1, e2, e3, e4, e5, e6⟩ | ⟨e1, e2, e3, e4, e5⟩
    · rw [e4, e6]
      have z := abs_sub_mul 0 (g.fdiv r) 1
      have z2 : (g.fdiv r).natAbs * r.natAbs ≤ g.natAbs + r.natAbs := by
        rw [← Int.natAbs_mul]
        omega
      have z3 := Nat.mul_le_mul_right r.natAbs z
      have z4 : (Int.natAbs 0 + (g.fdiv r).natAbs * Int.natAbs 1) * r.natAbs = (g.fdiv r).natAbs * r.natAbs := by simp
      rw [z4] at z3
      have z5 : Int.natAbs 1 * (g - g.fdiv r * r).natAbs = (g - g.fdiv r * r).natAbs := by simp
      rw [z5]
      subst e1 e2
      omega
    · refine Nat.le_trans (Nat.add_le_add_right (Nat.mul_le_mul_right _ (abs_sub_mul v (g.fdiv r) rv)) _) (step_lt (same_div ?_) e5)
      omega

/-! ### the law's own root -/
theorem rootI_uniq {n r : Int} (h : 0 ≤ n) (h0 : 0 ≤ r) (h1 : r * r ≤ n) (h2 : n < (r + 1) * (r + 1)) : r = rootI n := by
  obtain ⟨k0, k1, k2⟩ := rootI_spec h
  generalize rootI n = s at k0 k1 k2 ⊢
  by_cases a : r < s
  · have z : (r + 1) * (r + 1) ≤ s * s := Int.mul_le_mul (by omega) (by omega) (by omega) (by omega)
    omega
  · by_cases b : s < r
    · have z : (s + 1) * (s + 1) ≤ r * r := Int.mul_le_mul (by omega) (by omega) (by omega) (by omega)
      omega
    · omega
theorem half_step {low high n : Int} {i : Nat} (h : low + 1 < high) (hi : (high - low - 1) * 2 ^ i ≤ n) : ((low + high) / 2 - low - 1) * 2 ^ (i + 1) ≤ n ∧ (high - (low + high) / 2 - 1) * 2 ^ (i + 1) ≤ n ∧ low < (low + high) / 2 ∧ (low + high) / 2 < high := by
  have e : (2 : Int) ^ (i + 1) = 2 * 2 ^ i := by rw [Int.pow_succ, Int.mul_comm]
  have p0 : (0 : Int) < 2 ^ i := Int.pow_pos (by decide)
  rw [e]
  generalize (2 : Int) ^ i = B at hi p0 ⊢
  have m1 : (low + high) / 2 - low - 1 ≤ (high - low - 1) / 2 := by omega
  have m2 : high - (low + high) / 2 - 1 ≤ (high - low - 1) / 2 := by omega
  have m3 : 2 * ((high - low - 1) / 2) ≤ high - low - 1 := by omega
  refine ⟨?_, ?_, by omega, by omega⟩
  · have a1 : ((low + high) / 2 - low - 1) * (2 * B) = (2 * ((low + high) / 2 - low - 1)) * B := by grind
    have a2 : (2 * ((low + high) / 2 - low - 1)) * B ≤ (high - low - 1) * B := Int.mul_le_mul_of_nonneg_right (by omega) (by omega)
    omega
  · have a1 : (high - (low + high) / 2 - 1) * (2 * B) = (2 * (high - (low + high) / 2 - 1)) * B := by grind
    have a2 : (2 * (high - (low + high) / 2 - 1)) * B ≤ (high - low - 1) * B := Int.mul_le_mul_of_nonneg_right (by omega) (by omega)
    omega

/-! ### forms -/
def dsc (a b c : Int) : Int := b * b - 4 * a * c
def fA (a b c p r : Int) : Int := a * p * p + b * p * r + c * r * r
def fB (a b c p q r s : Int) : Int := 2 * a * p * q + b * (p * s + q * r) + 2 * c * r * s
theorem dsc_act (a b c p q r s : Int) : dsc (fA a b c p r) (fB a b c p q r s) (fA a b c q s) = dsc a b c * ((p * s - q * r) * (p * s - q * r)) := by
  unfold dsc fA fB
  grind
theorem act_mid (a b c p q r s : Int) : a * (p + q) * (p + q) + b * (p + q) * (r + s) + c * (r + s) * (r + s) - (a * p * p + b * p * r + c * r * r) - (a * q * q + b * q * s + c * s * s) = 2 * a * p * q + b * (p * s + q * r) + 2 * c * r * s := by
  grind
def kindS (d : Int) : Str := if d < 0 then "definite" else if d = 0 then "flat" else if rootI d * rootI d = d then "split" else "indefinite"
/-- the forms that the law draws -/
def sortS (ind : Bool) : Str := if ind then "indefinite" else "definite"
def FormOk (ind : Bool) (a b c : Int) : Prop := a.natAbs ≤ 5 ∧ b.natAbs ≤ 6 ∧ c.natAbs ≤ 5 ∧ kindS (dsc a b c) = sortS ind
theorem kindS_ind {d : Int} (h : kindS d = "indefinite") : 0 < d ∧ rootI d * rootI d ≠ d := by
  unfold kindS at h
  by_cases z : d < 0
  · rw [if_pos z] at h
    exact absurd h (by decide)
  · rw [if_neg z] at h
    by_cases y : d = 0
    · rw [if_pos y] at h
      exact absurd h (by decide)
    · rw [if_neg y] at h
      by_cases x : rootI d * rootI d = d
      · rw [if_pos x] at h
        exact absurd h (by decide)
      · exact ⟨by omega, x⟩
theorem kindS_def {d : Int} (h : kindS d = "definite") : d < 0 := by
  unfold kindS at h
  by_cases z : d < 0
  · exact z
  · rw [if_neg z] at h
    by_cases y : d = 0
    · rw [if_pos y] at h
      exact absurd h (by decide)
    · rw [if_neg y] at h
      by_cases x : rootI d * rootI d = d
      · rw [if_pos x] at h
        exact absurd h (by decide)
      · rw [if_neg x] at h
        exact absurd h (by decide)
theorem uLawRoot0 {n : Int} (h : 0 ≤ n) : 0 ≤ rootI n ∧ rootI n ≤ n := by
  obtain ⟨a, b, c⟩ := rootI_spec h
  refine ⟨a, ?_⟩
  by_cases z : rootI n = 0
  · omega
  · have := Int.mul_le_mul_of_nonneg_right (show 1 ≤ rootI n by omega) a
    omega
theorem mul3 {x y z : Int} {X Y Z : Nat} (h1 : x.natAbs ≤ X) (h2 : y.natAbs ≤ Y) (h3 : z.natAbs ≤ Z) : (x * y * z).natAbs ≤ X * Y * Z := by
  rw [Int.natAbs_mul, Int.natAbs_mul]
  exact Nat.mul_le_mul (Nat.mul_le_mul h1 h2) h3
theorem act_size {a b c p q r s : Int} {C M : Nat} (ha : a.natAbs ≤ C) (hb : b.natAbs ≤ C) (hc : c.natAbs ≤ C) (hp : p.natAbs ≤ M) (hq : q.natAbs ≤ M) (hr : r.natAbs ≤ M) (hs : s.natAbs ≤ M) :
    (fA a b c p r).natAbs ≤ 3 * (C * M * M) ∧ (fB a b c p q r s).natAbs ≤ 6 * (C * M * M) ∧ (fA a b c q s).natAbs ≤ 3 * (C * M * M) := by
  have t1 := mul3 ha hp hp
  have t2 := mul3 hb hp hr
  have t3 := mul3 hc hr hr
  have t4 := mul3 ha hp hq
  have t5 := mul3 hb hp hs
  have t6 := mul3 hb hq hr
  have t7 := mul3 hc hr hs
  have t8 := mul3 ha hq hq
  have t9 := mul3 hb hq hs
  have t0 := mul3 hc hs hs
  have e : fB a b c p q r s = 2 * (a * p * q) + b * p * s + b * q * r + 2 * (c * r * s) := by
    unfold fB
    grind
  rw [e]
  unfold fA
  generalize C * M * M = Z at *
  omega
theorem dsc_size {a b c : Int} {n : Int} (n0 : 0 ≤ n) (ha : (a.natAbs : Int) ≤ n) (hb : (b.natAbs : Int) ≤ n) (hc : (c.natAbs : Int) ≤ n) : -(5 * (n * n)) ≤ dsc a b c ∧ dsc a b c ≤ 5 * (n * n) := by
  have e1 : ((b * b).natAbs : Int) ≤ n * n := by
    rw [Int.natAbs_mul, Int.natCast_mul]
    exact Int.mul_le_mul hb hb (by omega) n0
  have e2 : ((a * c).natAbs : Int) ≤ n * n := by
    rw [Int.natAbs_mul, Int.natCast_mul]
    exact Int.mul_le_mul ha hc (by omega) n0
  unfold dsc
  rw [Int.mul_assoc]
  generalize b * b = x at *
  generalize a * c = y at *
  generalize n * n = z at *
  omega

/-! ### indefinite forms -/
theorem not_sq {D : Int} (h0 : 0 < D) (h : rootI D * rootI D ≠ D) (x : Int) : x * x ≠ D := by
  intro e
  obtain ⟨a, b, c⟩ := rootI_spec (n := D) (by omega)
  have n2 : ((x.natAbs : Int)) * (x.natAbs : Int) = D := by
    rw [← e, ← Int.natCast_mul, ← Int.natAbs_mul]
    have : 0 ≤ x * x := by omega
    omega
  rcases Int.lt_trichotomy (x.natAbs : Int) (rootI D) with z | z | z
  · have := Int.mul_le_mul (show (x.natAbs : Int) + 1 ≤ rootI D by omega) (show (x.natAbs : Int) + 1 ≤ rootI D by omega) (by omega) a
    have e2 : ((x.natAbs : Int) + 1) * ((x.natAbs : Int) + 1) = (x.natAbs : Int) * (x.natAbs : Int) + 2 * (x.natAbs : Int) + 1 := by grind
    omega
  · rw [z] at n2
    exact h n2
  · have := Int.mul_le_mul (show rootI D + 1 ≤ (x.natAbs : Int) by omega) (show rootI D + 1 ≤ (x.natAbs : Int) by omega) (by omega) (by omega)
    omega
/-- forms of the discriminant D, which is no square -/
structure IF (D a b c : Int) : Prop where
  d : dsc a b c = D
  d0 : 0 < D
  d1 : D ≤ 10000
  ns : rootI D * rootI D ≠ D
/-- reduced: point 3.4, by integers -/
def RedI (D a b : Int) : Prop := 0 < b ∧ b ≤ rootI D ∧ 2 * (a.natAbs : Int) - b ≤ rootI D ∧ rootI D < 2 * (a.natAbs : Int) + b
instance {D a b : Int} : Decidable (RedI D a b) := by unfold RedI; infer_instance
section
variable {D a b c : Int}
theorem IF.root (F : IF D a b c) : 0 ≤ rootI D ∧ rootI D < 100 ∧ rootI D * rootI D < D ∧ D < (rootI D + 1) * (rootI D + 1) := by
  obtain ⟨x, y, z⟩ := rootI_spec (n := D) (Int.le_of_lt F.d0)
  have h := F.ns
  have d1 := F.d1
  refine ⟨x, ?_, by omega, z⟩
  by_cases q : rootI D < 100
  · exact q
  · have := Int.mul_le_mul (show 100 ≤ rootI D by omega) (show 100 ≤ rootI D by omega) (by decide) x
    omega
theorem IF.c0 (F : IF D a b c) : c ≠ 0 := by
  rintro rfl
  have e := F.d
  unfold dsc at e
  exact not_sq F.d0 F.ns b (by omega)
theorem IF.a0 (F : IF D a b c) : a ≠ 0 := by
  rintro rfl
  have e := F.d
  unfold dsc at e
  exact not_sq F.d0 F.ns b (by rw [← e]; grind)
/-- the form behind (0, -1, 1, n) -/
theorem IF.go (F : IF D a b c) (n : Int) : IF D c (-b + 2 * c * n) (a - b * n + c * n * n) := by
  refine ⟨?_, F.d0, F.d1, F.ns⟩
  rw [← F.d]
  unfold dsc
  grind
theorem IF.cc (F : IF D a b c) : 4 * (a * c) = b * b - D := by
  have := F.d
  unfold dsc at this
  rw [Int.mul_assoc] at this
  omega
theorem prod_abs {x y z : Int} (h : 4 * (x * y) = z) : 4 * ((x.natAbs : Int) * (y.natAbs : Int)) = (z.natAbs : Int) := by
  rw [← h, Int.natAbs_mul, Int.natAbs_mul]
  rfl
theorem sq_abs (x : Int) : (x.natAbs : Int) * (x.natAbs : Int) = x * x := by
  rw [← Int.natCast_mul, ← Int.natAbs_mul]
  have : 0 ≤ x * x := by
    rcases Int.le_total 0 x with h | h
    · exact Int.mul_nonneg h h
    · exact Int.mul_nonneg_of_nonpos_of_nonpos h h
  omega
/-- a great c: |b'| <= |c| makes 4 |c'| <= |c| -/
theorem IF.far {b' c' : Int} (F : IF D c b' c') (hc : rootI D < (c.natAbs : Int)) (hb : (b'.natAbs : Int) ≤ (c.natAbs : Int)) : 4 * (c'.natAbs : Int) ≤ (c.natAbs : Int) := by
  obtain ⟨r0, r1, r2, r3⟩ := F.root
  have e := prod_abs F.cc
  have s1 : b' * b' ≤ (c.natAbs : Int) * (c.natAbs : Int) := by
    rw [← sq_abs b']
    exact Int.mul_le_mul hb hb (by omega) (by omega)
  have s2 : (rootI D + 1) * (rootI D + 1) ≤ (c.natAbs : Int) * (c.natAbs : Int) := Int.mul_le_mul (by omega) (by omega) (by omega) (by omega)
  have s3 : 0 ≤ b' * b' := by
    rw [← sq_abs]
    exact Int.mul_nonneg (by omega) (by omega)
  have d0 := F.d0
  have s4 : ((b' * b' - D).natAbs : Int) ≤ (c.natAbs : Int) * (c.natAbs : Int) := by omega
  rw [← e] at s4
  by_cases z : 4 * (c'.natAbs : Int) ≤ (c.natAbs : Int)
  · exact z
  · have p : 0 < (c.natAbs : Int) := by omega
    have t := Int.mul_lt_mul_of_pos_left (show (c.natAbs : Int) < 4 * (c'.natAbs : Int) by omega) p
    have t2 : (c.natAbs : Int) * (4 * (c'.natAbs : Int)) = 4 * ((c.natAbs : Int) * (c'.natAbs : Int)) := by grind
    omega
/-- a small c, and b' in its bounds: reduced, or c' less -/
theorem IF.near {b' c' : Int} (F : IF D c b' c') (hc : (c.natAbs : Int) ≤ rootI D) (h1 : rootI D - 2 * (c.natAbs : Int) < b') (h2 : b' ≤ rootI D) : RedI D c b' ∨ (c'.natAbs : Int) < (c.natAbs : Int) := by
  obtain ⟨r0, r1, r2, r3⟩ := F.root
  have c0 := F.a0
  by_cases z : 2 * (c.natAbs : Int) ≤ rootI D
  · exact .inl ⟨by omega, h2, by omega, by omega⟩
  · right
    have e := prod_abs F.cc
    have s1 : b' * b' ≤ rootI D * rootI D := by
      rw [← sq_abs b']
      exact Int.mul_le_mul (by omega) (by omega) (by omega) r0
    have s2 : (rootI D + 1) * (rootI D + 1) ≤ (2 * (c.natAbs : Int)) * (2 * (c.natAbs : Int)) := Int.mul_le_mul (by omega) (by omega) (by omega) (by omega)
    have s3 : 0 ≤ b' * b' := by
      rw [← sq_abs]
      exact Int.mul_nonneg (by omega) (by omega)
    have s5 : (2 * (c.natAbs : Int)) * (2 * (c.natAbs : Int)) = 4 * ((c.natAbs : Int) * (c.natAbs : Int)) := by grind
    by_cases y : (c'.natAbs : Int) < (c.natAbs : Int)
    · exact y
    · have t := Int.mul_le_mul_of_nonneg_left (show (c.natAbs : Int) ≤ (c'.natAbs : Int) by omega) (show 0 ≤ (c.natAbs : Int) by omega)
      omega
/-- c' is small as well -/
theorem IF.small {b' c' : Int} (F : IF D c b' c') (hb : b' * b' ≤ 10000) : (c'.natAbs : Int) ≤ 10000 := by
  have e := prod_abs F.cc
  have c0 := F.a0
  have d1 := F.d1
  have d0 := F.d0
  have s3 : 0 ≤ b' * b' := by
    rw [← sq_abs]
    exact Int.mul_nonneg (by omega) (by omega)
  have t := Int.mul_le_mul_of_nonneg_right (show 1 ≤ (c.natAbs : Int) by omega) (show 0 ≤ (c'.natAbs : Int) by omega)
  omega
end
/-- the middle number behind step_of, the step, the far step -/
def bN (D b c : Int) : Int := rootI D - (rootI D + b) % (2 * (c.natAbs : Int))
def nN (D b c : Int) : Int := (b + bN D b c).fdiv (2 * c)
def nF (b c : Int) : Int := (b + (c.natAbs : Int)).fdiv (2 * (c.natAbs : Int)) * (if 0 < c then 1 else -1)
theorem bN_spec {D b c : Int} (hc : c ≠ 0) : rootI D - 2 * (c.natAbs : Int) < bN D b c ∧ bN D b c ≤ rootI D ∧ -b + 2 * c * nN D b c = bN D b c := by
  have h0 : 0 < 2 * (c.natAbs : Int) := by omega
  have m0 := Int.emod_nonneg (rootI D + b) (show 2 * (c.natAbs : Int) ≠ 0 by omega)
  have m1 := Int.emod_lt_of_pos (rootI D + b) h0
  have m2 := Int.mul_ediv_add_emod (rootI D + b) (2 * (c.natAbs : Int))
  have dv : (2 * c) ∣ (b + bN D b c) := by
    have e : b + bN D b c = 2 * (c.natAbs : Int) * ((rootI D + b) / (2 * (c.natAbs : Int))) := by
      unfold bN
      omega
    rw [e]
    refine Int.dvd_trans ?_ (Int.dvd_mul_right _ _)
    rcases Int.natAbs_eq c with h | h
    · exact ⟨1, by omega⟩
    · exact ⟨-1, by omega⟩
  obtain ⟨k, hk⟩ := dv
  have hn : nN D b c = k := by
    unfold nN
    rw [hk, Int.mul_fdiv_cancel_left _ (by omega)]
  refine ⟨by unfold bN; omega, by unfold bN; omega, ?_⟩
  rw [hn, ← hk]
  omega
theorem nF_spec {b c : Int} (hc : c ≠ 0) : ((-b + 2 * c * nF b c).natAbs : Int) ≤ (c.natAbs : Int) := by
  have h0 : 0 < 2 * (c.natAbs : Int) := by omega
  unfold nF
  rw [Int.fdiv_eq_ediv_of_nonneg _ (by omega)]
  have m0 := Int.emod_nonneg (b + (c.natAbs : Int)) (show 2 * (c.natAbs : Int) ≠ 0 by omega)
  have m1 := Int.emod_lt_of_pos (b + (c.natAbs : Int)) h0
  have m2 := Int.mul_ediv_add_emod (b + (c.natAbs : Int)) (2 * (c.natAbs : Int))
  have e : 2 * c * ((b + (c.natAbs : Int)) / (2 * (c.natAbs : Int)) * (if 0 < c then 1 else -1)) = 2 * (c.natAbs : Int) * ((b + (c.natAbs : Int)) / (2 * (c.natAbs : Int))) := by
    generalize (b + (c.natAbs : Int)) / (2 * (c.natAbs : Int)) = x
    by_cases z : 0 < c
    · rw [if_pos z, Int.mul_one, show (c.natAbs : Int) = c by omega]
    · rw [if_neg z, show (c.natAbs : Int) = -c by omega]
      grind
  rw [e]
  omega
/-- how far it is -/
def Pt (R c : Int) (k : Nat) : Prop := ((c.natAbs : Int) ≤ R ∧ c.natAbs ≤ k) ∨ ∃ t, k = 101 + t ∧ c.natAbs < 2 ^ t
theorem Pt.far {R c c' : Int} {k : Nat} (hR : R < 100) (h : Pt R c k) (hc : R < (c.natAbs : Int)) (h4 : 4 * (c'.natAbs : Int) ≤ (c.natAbs : Int)) (hc0 : c ≠ 0) : ∃ k', k' < k ∧ Pt R c' k' := by
  rcases h with ⟨h, _⟩ | ⟨t, rfl, ht⟩
  · omega
  · by_cases z : (c'.natAbs : Int) ≤ R
    · exact ⟨c'.natAbs, by omega, .inl ⟨z, Nat.le_refl _⟩⟩
    · cases t with
      | zero => exact absurd ht (by rw [Nat.pow_zero]; omega)
      | succ t => exact ⟨101 + t, by omega, .inr ⟨t, rfl, by rw [Nat.pow_succ] at ht; omega⟩⟩
theorem Pt.near {R c c' : Int} {k : Nat} (h : Pt R c k) (hR : R < 100) (hc : (c.natAbs : Int) ≤ R) (h4 : (c'.natAbs : Int) < (c.natAbs : Int)) : ∃ k', k' < k ∧ Pt R c' k' := by
  refine ⟨c'.natAbs, ?_, .inl ⟨by omega, Nat.le_refl _⟩⟩
  rcases h with ⟨_, h⟩ | ⟨t, rfl, ht⟩
  · omega
  · omega
theorem n_size {b c n : Int} (hc : c ≠ 0) (hb : (b.natAbs : Int) ≤ 1099511627776) (h : ((-b + 2 * c * n).natAbs : Int) ≤ 1099511627776) : n.natAbs ≤ 2199023255552 := by
  have e : ((2 * c * n).natAbs : Int) = 2 * ((c.natAbs : Int) * (n.natAbs : Int)) := by
    rw [Int.mul_assoc, Int.natAbs_mul, Int.natAbs_mul]
    rfl
  have t := Int.mul_le_mul_of_nonneg_right (show 1 ≤ (c.natAbs : Int) by omega) (show 0 ≤ (n.natAbs : Int) by omega)
  omega
theorem actA (a b c p q r s x y : Int) : fA (fA a b c p r) (fB a b c p q r s) (fA a b c q s) x y = fA a b c (p * x + q * y) (r * x + s * y) := by
  unfold fA fB
  grind
theorem actB (a b c p q r s x y z w : Int) : fB (fA a b c p r) (fB a b c p q r s) (fA a b c q s) x z y w = fB a b c (p * x + q * y) (p * z + q * w) (r * x + s * y) (r * z + s * w) := by
  unfold fA fB
  grind

theorem IF.sizes {D a b c : Int} (F : IF D a b c) (R : RedI D a b) : ((c.natAbs : Int) ≤ rootI D) ∧ 2 * (c.natAbs : Int) ≤ rootI D + b ∧ ((a.natAbs : Int) ≤ rootI D) := by
  obtain ⟨r0, r1, r2, r3⟩ := F.root
  obtain ⟨q1, q2, q3, q4⟩ := R
  have e := prod_abs F.cc
  have a0 := F.a0
  have s1 : b * b ≤ rootI D * rootI D := Int.mul_le_mul q2 q2 (by omega) r0
  have e2 : ((b * b - D).natAbs : Int) = D - b * b := by omega
  rw [e2] at e
  have k : 2 * (c.natAbs : Int) ≤ rootI D + b := by
    by_cases z : 2 * (c.natAbs : Int) ≤ rootI D + b
    · exact z
    · have t := Int.mul_le_mul (show rootI D - b + 1 ≤ 2 * (a.natAbs : Int) by omega) (show rootI D + b + 1 ≤ 2 * (c.natAbs : Int) by omega) (by omega) (by omega)
      have e3 : (rootI D - b + 1) * (rootI D + b + 1) = (rootI D + 1) * (rootI D + 1) - b * b := by grind
      have e4 : 2 * (a.natAbs : Int) * (2 * (c.natAbs : Int)) = 4 * ((a.natAbs : Int) * (c.natAbs : Int)) := by grind
      omega
  exact ⟨by omega, k, by omega⟩
/-- the neighbour of a reduced form is reduced, and no other n leads to a reduced form -/
theorem IF.nb {D a b c : Int} (F : IF D a b c) (R : RedI D a b) : RedI D c (bN D b c) := by
  obtain ⟨r0, r1, r2, r3⟩ := F.root
  obtain ⟨s1, s2, s3⟩ := F.sizes R
  obtain ⟨q1, q2, q3, q4⟩ := R
  have c0 := F.c0
  obtain ⟨v1, v2, v3⟩ := bN_spec (D := D) (b := b) c0
  by_cases z : 2 * (c.natAbs : Int) ≤ rootI D
  · exact ⟨by omega, v2, by omega, by omega⟩
  · have m2 := Int.mul_ediv_add_emod (rootI D + b) (2 * (c.natAbs : Int))
    have e : (rootI D + b) / (2 * (c.natAbs : Int)) = 1 := by
      refine Int.ediv_eq_iff_of_pos (by omega) |>.mpr ?_
      omega
    rw [e] at m2
    have eb : bN D b c = 2 * (c.natAbs : Int) - b := by
      unfold bN
      omega
    rw [eb]
    exact ⟨by omega, by omega, by omega, by omega⟩
theorem IF.only {D a b c n : Int} (F : IF D a b c) (hn : n ≠ nN D b c) : ¬ RedI D c (-b + 2 * c * n) := by
  rintro ⟨q1, q2, q3, q4⟩
  have c0 := F.c0
  obtain ⟨v1, v2, v3⟩ := bN_spec (D := D) (b := b) c0
  have e : (-b + 2 * c * n) - bN D b c = 2 * (c * (n - nN D b c)) := by
    rw [← v3]
    grind
  have e2 : ((c * (n - nN D b c)).natAbs : Int) = (c.natAbs : Int) * ((n - nN D b c).natAbs : Int) := by
    rw [Int.natAbs_mul]
    rfl
  have t := Int.mul_le_mul_of_nonneg_left (show 1 ≤ ((n - nN D b c).natAbs : Int) by omega) (show 0 ≤ (c.natAbs : Int) by omega)
  omega
theorem IF.nbc {D a b c : Int} (F : IF D a b c) : (bN D b c * bN D b c - D).fdiv (4 * c) = a - b * nN D b c + c * nN D b c * nN D b c := by
  have c0 := F.c0
  obtain ⟨v1, v2, v3⟩ := bN_spec (D := D) (b := b) c0
  have G := (F.go (nN D b c)).cc
  rw [v3] at G
  rw [← G, ← Int.mul_assoc, Int.mul_fdiv_cancel_left _ (by omega)]

/-! ### the river -/
/-- a slope's order: where the form is above 0 comes ahead -/
theorem rv_slope {a b c x y u v : Int} (ha : 0 < a) (hc : c < 0) (x0 : 0 ≤ x) (y0 : 0 ≤ y) (u0 : 0 ≤ u) (v0 : 0 ≤ v) (h1 : 0 < fA a b c x y) (h2 : fA a b c u v < 0) : 0 < x * v - y * u := by
  by_cases z : 0 < x * v - y * u
  · exact z
  · exfalso
    have le : x * v ≤ y * u := by omega
    have v1 : 0 < v := by
      rcases Int.lt_or_le 0 v with k | k
      · exact k
      · have : v = 0 := by omega
        subst this
        have e : fA a b c u 0 = a * (u * u) := by unfold fA; grind
        have := Int.mul_nonneg (Int.le_of_lt ha) (Int.mul_nonneg u0 u0)
        omega
    have x1 : 0 < x := by
      rcases Int.lt_or_le 0 x with k | k
      · exact k
      · have : x = 0 := by omega
        subst this
        have e : fA a b c 0 y = c * (y * y) := by unfold fA; grind
        have := Int.mul_nonneg (show 0 ≤ -c by omega) (Int.mul_nonneg y0 y0)
        rw [Int.neg_mul] at this
        omega
    have xv := Int.mul_pos x1 v1
    have y1 : 0 < y := by
      rcases Int.lt_or_le 0 y with k | k
      · exact k
      · have : y = 0 := by omega
        subst this
        omega
    have u1 : 0 < u := by
      rcases Int.lt_or_le 0 u with k | k
      · exact k
      · have : u = 0 := by omega
        subst this
        omega
    have e : x * y * fA a b c u v - u * v * fA a b c x y = (y * u - x * v) * (a * (u * x) + -c * (v * y)) := by unfold fA; grind
    have p1 := Int.mul_nonneg (show 0 ≤ y * u - x * v by omega) (Int.add_nonneg (Int.mul_nonneg (Int.le_of_lt ha) (Int.mul_nonneg u0 x0)) (Int.mul_nonneg (show 0 ≤ -c by omega) (Int.mul_nonneg v0 y0)))
    have p2 := Int.mul_pos (Int.mul_pos u1 v1) h1
    have p3 := Int.mul_neg_of_pos_of_neg (Int.mul_pos x1 y1) h2
    omega
theorem rv_neg {a b c x y : Int} : fA a b c (-x) (-y) = fA a b c x y := by unfold fA; grind
theorem rv_mir {a b c x y : Int} : fA a (-b) c x (-y) = fA a b c x y := by unfold fA; grind
/-- all of one sign, or the inverse so -/
theorem rv_signs {a b c p q r s : Int} (ha : 0 < a) (hc : c < 0) (hd : p * s - q * r = 1) (h1 : 0 < fA a b c p r) (h2 : fA a b c q s < 0) (p0 : 0 ≤ p) :
    (0 ≤ r ∧ 0 ≤ q ∧ 0 ≤ s) ∨ (r ≤ 0 ∧ q ≤ 0 ∧ 0 ≤ s) ∨ (p = 0 ∧ r ≤ 0 ∧ q ≤ 0 ∧ s ≤ 0) ∨ (p = 0 ∧ 0 ≤ r ∧ 0 ≤ q ∧ s ≤ 0) := by
  have pz : ∀ z : Int, p = 0 → False := by
    intro _ hp
    subst hp
    have e : fA a b c 0 r = c * (r * r) := by unfold fA; grind
    have rr : 0 ≤ r * r := by
      rcases Int.le_total 0 r with k | k
      · exact Int.mul_nonneg k k
      · exact Int.mul_nonneg_of_nonpos_of_nonpos k k
    have := Int.mul_nonneg (show 0 ≤ -c by omega) rr
    rw [Int.neg_mul] at this
    omega
  have p1 : 0 < p := by
    rcases Int.lt_or_le 0 p with k | k
    · exact k
    · exact (pz 0 (by omega)).elim
  have s1 : s ≠ 0 := by
    intro hs
    subst hs
    have e : fA a b c q 0 = a * (q * q) := by unfold fA; grind
    have rr : 0 ≤ q * q := by
      rcases Int.le_total 0 q with k | k
      · exact Int.mul_nonneg k k
      · exact Int.mul_nonneg_of_nonpos_of_nonpos k k
    have := Int.mul_nonneg (Int.le_of_lt ha) rr
    omega
  rcases Int.le_total 0 r with r0 | r0
  · rcases Int.le_total 0 q with q0 | q0
    · rcases Int.lt_or_gt_of_ne s1 with k | k
      · have a1 := Int.mul_neg_of_pos_of_neg p1 k
        have a2 := Int.mul_nonneg q0 r0
        omega
      · exact .inl ⟨r0, q0, by omega⟩
    · rcases Int.lt_or_gt_of_ne s1 with k | k
      · have := rv_slope ha hc p0 r0 (show 0 ≤ -q by omega) (show 0 ≤ -s by omega) h1 (by rw [rv_neg]; exact h2)
        have e : p * -s - r * -q = -(p * s - q * r) := by grind
        omega
      · by_cases rz : r = 0
        · exact .inr (.inl ⟨by omega, q0, by omega⟩)
        · by_cases qz : q = 0
          · exact .inl ⟨r0, by omega, by omega⟩
          · have a1 := Int.mul_pos p1 k
            have a2 := Int.mul_neg_of_neg_of_pos (show q < 0 by omega) (show 0 < r by omega)
            omega
  · rcases Int.le_total 0 q with q0 | q0
    · rcases Int.lt_or_gt_of_ne s1 with k | k
      · have := rv_slope (b := -b) ha hc p0 (show 0 ≤ -r by omega) q0 (show 0 ≤ -s by omega) (by rw [rv_mir]; exact h1) (by rw [rv_mir]; exact h2)
        have e : p * -s - -r * q = -(p * s - q * r) := by grind
        omega
      · by_cases rz : r = 0
        · exact .inl ⟨by omega, q0, by omega⟩
        · by_cases qz : q = 0
          · exact .inr (.inl ⟨r0, by omega, by omega⟩)
          · have a1 := Int.mul_pos p1 k
            have a2 := Int.mul_neg_of_pos_of_neg (show 0 < q by omega) (show r < 0 by omega)
            omega
    · rcases Int.lt_or_gt_of_ne s1 with k | k
      · have a1 := Int.mul_neg_of_pos_of_neg p1 k
        have a2 := Int.mul_nonneg_of_nonpos_of_nonpos q0 r0
        omega
      · exact .inr (.inl ⟨r0, q0, by omega⟩)
abbrev Fm := Int × Int × Int
def actF (f : Fm) (p q r s : Int) : Fm := (fA f.1 f.2.1 f.2.2 p r, fB f.1 f.2.1 f.2.2 p q r s, fA f.1 f.2.1 f.2.2 q s)
theorem fm_ext {f g : Fm} (h1 : f.1 = g.1) (h2 : f.2.1 = g.2.1) (h3 : f.2.2 = g.2.2) : f = g := Prod.ext h1 (Prod.ext h2 h3)
theorem actF_mul (f : Fm) (p q r s x z y w : Int) : actF (actF f p q r s) x z y w = actF f (p * x + q * y) (p * z + q * w) (r * x + s * y) (r * z + s * w) := by
  unfold actF
  refine fm_ext ?_ ?_ ?_ <;> (dsimp only; (try unfold fA); (try unfold fB); grind)
theorem actF_one (f : Fm) : actF f 1 0 0 1 = f := by
  unfold actF
  refine fm_ext ?_ ?_ ?_ <;> (dsimp only; (try unfold fA); (try unfold fB); grind)
theorem actF_neg (f : Fm) (p q r s : Int) : actF f (-p) (-q) (-r) (-s) = actF f p q r s := by
  unfold actF
  refine fm_ext ?_ ?_ ?_ <;> (dsimp only; (try unfold fA); (try unfold fB); grind)
theorem actF_inv (f : Fm) {p q r s : Int} (hd : p * s - q * r = 1) : actF (actF f p q r s) s (-q) (-r) p = f := by
  rw [actF_mul]
  have e1 : p * s + q * -r = 1 := by rw [← hd]; grind
  have e2 : p * -q + q * p = 0 := by grind
  have e3 : r * s + s * -r = 0 := by grind
  have e4 : r * -q + s * p = 1 := by rw [← hd]; grind
  rw [e1, e2, e3, e4, actF_one]
/-- a > 0 > c -/
def Riv (f : Fm) : Prop := 0 < f.1 ∧ f.2.2 < 0
/-- the next one along the river -/
def nxR (f : Fm) : Fm := if f.1 + f.2.1 + f.2.2 < 0 then (f.1, f.2.1 + 2 * f.1, f.1 + f.2.1 + f.2.2) else (f.1 + f.2.1 + f.2.2, f.2.1 + 2 * f.2.2, f.2.2)
def nxN : Nat → Fm → Fm
  | 0, f => f
  | k + 1, f => nxN k (nxR f)
theorem actF_R (f : Fm) : actF f 1 1 0 1 = (f.1, f.2.1 + 2 * f.1, f.1 + f.2.1 + f.2.2) := by
  unfold actF
  refine fm_ext ?_ ?_ ?_ <;> (dsimp only; (try unfold fA); (try unfold fB); grind)
theorem actF_L (f : Fm) : actF f 1 0 1 1 = (f.1 + f.2.1 + f.2.2, f.2.1 + 2 * f.2.2, f.2.2) := by
  unfold actF
  refine fm_ext ?_ ?_ ?_ <;> (dsimp only; (try unfold fA); (try unfold fB); grind)
/-- a matrix of numbers not below 0 is a way along the river -/
theorem rv_way : ∀ (n : Nat) (f : Fm) (p q r s : Int), 0 ≤ p → 0 ≤ q → 0 ≤ r → 0 ≤ s → p * s - q * r = 1 → p + q + r + s ≤ (n : Int) → Riv f → Riv (actF f p q r s) → ∃ k, nxN k f = actF f p q r s
  | 0, f, p, q, r, s, p0, q0, r0, s0, hd, hn, _, _ => by
    have e1 : p = 0 := by omega
    have e2 : q = 0 := by omega
    rw [e1, e2] at hd
    omega
  | n + 1, f, p, q, r, s, p0, q0, r0, s0, hd, hn, hf, hg => by
    obtain ⟨a, b, c⟩ := f
    obtain ⟨ha, hc⟩ := hf
    obtain ⟨g1, g2⟩ := hg
    dsimp only [actF] at ha hc g1 g2
    by_cases c1 : r ≤ p ∧ s ≤ q
    · -- R in front
      obtain ⟨c1, c2⟩ := c1
      have e : actF (a, b, c) p q r s = actF (actF (a, b, c) 1 1 0 1) (p - r) (q - s) r s := by
        rw [actF_mul]
        congr 1 <;> omega
      have hneg : a + b + c < 0 := by
        by_cases z : a + b + c < 0
        · exact z
        · exfalso
          have e2 : fA a b c q s = a * ((q - s) * (q - s)) + (a + (a + b + c) + -c) * ((q - s) * s) + (a + b + c) * (s * s) := by unfold fA; grind
          have t1 := Int.mul_nonneg (Int.le_of_lt ha) (Int.mul_nonneg (show 0 ≤ q - s by omega) (show 0 ≤ q - s by omega))
          have t2 := Int.mul_nonneg (show 0 ≤ a + (a + b + c) + -c by omega) (Int.mul_nonneg (show 0 ≤ q - s by omega) s0)
          have t3 := Int.mul_nonneg (show 0 ≤ a + b + c by omega) (Int.mul_nonneg s0 s0)
          omega
      have en : nxR (a, b, c) = actF (a, b, c) 1 1 0 1 := by
        rw [actF_R]
        unfold nxR
        rw [if_pos hneg]
      have rs : 0 < r + s := by
        rcases Int.lt_or_le 0 (r + s) with k | k
        · exact k
        · have e3 : r = 0 := by omega
          have e4 : s = 0 := by omega
          rw [e3, e4] at hd
          omega
      obtain ⟨k, hk⟩ := rv_way n (actF (a, b, c) 1 1 0 1) (p - r) (q - s) r s (by omega) (by omega) r0 s0 (by rw [← hd]; grind) (by omega) (by rw [actF_R]; exact ⟨ha, hneg⟩) (by rw [← e]; exact ⟨g1, g2⟩)
      exact ⟨k + 1, by rw [e, ← hk, ← en]; rfl⟩
    · by_cases c2 : p ≤ r ∧ q ≤ s
      · obtain ⟨c2, c3⟩ := c2
        have e : actF (a, b, c) p q r s = actF (actF (a, b, c) 1 0 1 1) p q (r - p) (s - q) := by
          rw [actF_mul]
          congr 1 <;> omega
        have hpos : 0 < a + b + c := by
          by_cases z : 0 < a + b + c
          · exact z
          · exfalso
            have e2 : fA a b c p r = (a + b + c) * (p * p) + ((a + b + c) + -a + c) * (p * (r - p)) + c * ((r - p) * (r - p)) := by unfold fA; grind
            have t1 := Int.mul_nonneg (show 0 ≤ -(a + b + c) by omega) (Int.mul_nonneg p0 p0)
            have t2 := Int.mul_nonneg (show 0 ≤ -((a + b + c) + -a + c) by omega) (Int.mul_nonneg p0 (show 0 ≤ r - p by omega))
            have t3 := Int.mul_nonneg (show 0 ≤ -c by omega) (Int.mul_nonneg (show 0 ≤ r - p by omega) (show 0 ≤ r - p by omega))
            rw [Int.neg_mul] at t1 t2 t3
            omega
        have en : nxR (a, b, c) = actF (a, b, c) 1 0 1 1 := by
          rw [actF_L]
          unfold nxR
          rw [if_neg (by dsimp only; omega)]
        have pq : 0 < p + q := by
          rcases Int.lt_or_le 0 (p + q) with k | k
          · exact k
          · have e3 : p = 0 := by omega
            have e4 : q = 0 := by omega
            rw [e3, e4] at hd
            omega
        obtain ⟨k, hk⟩ := rv_way n (actF (a, b, c) 1 0 1 1) p q (r - p) (s - q) p0 q0 (by omega) (by omega) (by rw [← hd]; grind) (by omega) (by rw [actF_L]; exact ⟨hpos, hc⟩) (by rw [← e]; exact ⟨g1, g2⟩)
        exact ⟨k + 1, by rw [e, ← hk, ← en]; rfl⟩
      · -- neither row above the other: the unit
        have key : p = 1 ∧ q = 0 ∧ r = 0 ∧ s = 1 := by
          by_cases z : r < p
          · have zs : q < s := by omega
            have t := Int.mul_le_mul (show r + 1 ≤ p by omega) (show q + 1 ≤ s by omega) (by omega) p0
            have e2 : (r + 1) * (q + 1) = q * r + r + q + 1 := by grind
            have r00 : r = 0 := by omega
            have q00 : q = 0 := by omega
            rw [r00, q00] at hd
            have ps : p * s = 1 := by omega
            have p1 : p = 1 := by
              rcases Int.lt_or_le 1 p with k | k
              · have := Int.mul_le_mul (show 2 ≤ p by omega) (show 1 ≤ s by omega) (by decide) p0
                omega
              · omega
            rw [p1] at ps
            exact ⟨p1, q00, r00, by omega⟩
          · exfalso
            have zs : s < q := by omega
            have pr : p ≤ r := by omega
            have t := Int.mul_le_mul pr (show s ≤ q by omega) s0 r0
            have : r * q = q * r := Int.mul_comm _ _
            omega
        obtain ⟨rfl, rfl, rfl, rfl⟩ := key
        exact ⟨0, by rw [actF_one]; rfl⟩
theorem rv_one {f : Fm} {p q r s : Int} (hd : p * s - q * r = 1) (hf : Riv f) (hg : Riv (actF f p q r s)) : (∃ k, nxN k f = actF f p q r s) ∨ ∃ k, nxN k (actF f p q r s) = f := by
  have main : ∀ p q r s : Int, 0 ≤ p → p * s - q * r = 1 → Riv (actF f p q r s) → (∃ k, nxN k f = actF f p q r s) ∨ ∃ k, nxN k (actF f p q r s) = f := by
    intro p q r s p0 hd hg
    rcases rv_signs hf.1 hf.2 hd hg.1 hg.2 p0 with ⟨r0, q0, s0⟩ | ⟨r0, q0, s0⟩ | ⟨p1, r0, q0, s0⟩ | ⟨p1, r0, q0, s0⟩
    · exact .inl (rv_way (p + q + r + s).toNat f p q r s p0 q0 r0 s0 hd (by omega) hf hg)
    · right
      have e := actF_inv f hd
      have h := rv_way (s + -q + -r + p).toNat (actF f p q r s) s (-q) (-r) p s0 (by omega) (by omega) p0 (by rw [← hd]; grind) (by omega) hg (by rw [e]; exact hf)
      rw [e] at h
      exact h
    · rw [p1] at hd
      have h1 := Int.mul_nonneg_of_nonpos_of_nonpos q0 r0
      omega
    · rw [p1] at hd
      have h1 := Int.mul_nonneg q0 r0
      omega
  rcases Int.le_total 0 p with p0 | p0
  · exact main p q r s p0 hd hg
  · have e := actF_neg f p q r s
    have h := main (-p) (-q) (-r) (-s) (by omega) (by rw [← hd]; grind) (by rw [e]; exact hg)
    rw [e] at h
    exact h

/-! ### the turnings are the reduced forms -/
def IFf (D : Int) (f : Fm) : Prop := IF D f.1 f.2.1 f.2.2
def RDf (D : Int) (f : Fm) : Prop := RedI D f.1 f.2.1
def rdF (f : Fm) : Prop := f.1 * f.2.2 < 0 ∧ 0 < f.1 + f.2.1 + f.2.2 ∧ f.1 - f.2.1 + f.2.2 < 0
theorem IFf.act {D : Int} {f : Fm} (F : IFf D f) {p q r s : Int} (hd : p * s - q * r = 1) : IFf D (actF f p q r s) := by
  refine ⟨?_, F.d0, F.d1, F.ns⟩
  show dsc (fA f.1 f.2.1 f.2.2 p r) (fB f.1 f.2.1 f.2.2 p q r s) (fA f.1 f.2.1 f.2.2 q s) = D
  rw [dsc_act, hd, F.d]
  omega
theorem IFf.sum {D : Int} {f : Fm} (F : IFf D f) : f.1 + f.2.1 + f.2.2 ≠ 0 := by
  intro h
  have e := F.d
  unfold dsc at e
  refine not_sq F.d0 F.ns (f.1 - f.2.2) ?_
  rw [← e, show f.2.1 = -f.1 - f.2.2 by omega]
  grind
theorem sq_lt {x r D : Int} (x0 : 0 ≤ x) (h : x ≤ r) (h1 : r * r < D) : x * x < D := by
  have := Int.mul_le_mul h h x0 (by omega)
  omega
theorem sq_gt {x r D : Int} (r0 : 0 ≤ r) (h : r + 1 ≤ x) (h1 : D < (r + 1) * (r + 1)) : D < x * x := by
  have := Int.mul_le_mul h h (by omega) (by omega)
  omega
theorem root_le {x r D : Int} (r0 : 0 ≤ r) (h1 : D < (r + 1) * (r + 1)) (h : x * x < D) : x ≤ r := by
  by_cases z : x ≤ r
  · exact z
  · have := Int.mul_le_mul (show r + 1 ≤ x by omega) (show r + 1 ≤ x by omega) (by omega) (by omega)
    omega
theorem root_gt {x r D : Int} (x0 : 0 ≤ x) (h1 : r * r < D) (h : D < x * x) : r < x := by
  by_cases z : r < x
  · exact z
  · have := Int.mul_le_mul (show x ≤ r by omega) (show x ≤ r by omega) x0 (by omega)
    omega
/-- reduced forms, without a root -/
theorem red_iff {D : Int} {f : Fm} (F : IFf D f) : RDf D f ↔ rdF f := by
  obtain ⟨a, b, c⟩ := f
  obtain ⟨r0, r1, r2, r3⟩ := F.root
  have e := F.d
  have a0 := F.a0
  have c0 := F.c0
  unfold RDf rdF RedI
  dsimp only [IFf] at *
  unfold dsc at e
  generalize rootI D = r at *
  have e2 : b * b - 4 * (a * c) = D := by rw [← e]; grind
  constructor
  · rintro ⟨h1, h2, h3, h4⟩
    have bb := sq_lt (by omega) h2 r2
    have ac : a * c < 0 := by omega
    refine ⟨ac, ?_⟩
    -- (2|a| - b)^2 < D < (2|a| + b)^2
    have hA : (a.natAbs : Int) * (a.natAbs : Int) = a * a := sq_abs a
    have u2 : D < (2 * (a.natAbs : Int) + b) * (2 * (a.natAbs : Int) + b) := sq_gt r0 (by omega) r3
    have u1 : (2 * (a.natAbs : Int) - b) * (2 * (a.natAbs : Int) - b) < D := by
      rcases Int.le_total 0 (2 * (a.natAbs : Int) - b) with k | k
      · exact sq_lt k h3 r2
      · have := sq_lt (x := b - 2 * (a.natAbs : Int)) (by omega) (by omega) r2
        have e3 : (2 * (a.natAbs : Int) - b) * (2 * (a.natAbs : Int) - b) = (b - 2 * (a.natAbs : Int)) * (b - 2 * (a.natAbs : Int)) := by grind
        omega
    have v1 : (2 * (a.natAbs : Int) - b) * (2 * (a.natAbs : Int) - b) = 4 * ((a.natAbs : Int) * ((a.natAbs : Int) - b)) + b * b := by grind
    have v2 : (2 * (a.natAbs : Int) + b) * (2 * (a.natAbs : Int) + b) = 4 * ((a.natAbs : Int) * ((a.natAbs : Int) + b)) + b * b := by grind
    have w : a * c = -((a.natAbs : Int) * (c.natAbs : Int)) := by
      have : ((a * c).natAbs : Int) = (a.natAbs : Int) * (c.natAbs : Int) := by rw [Int.natAbs_mul]; rfl
      omega
    have A0 : 0 < (a.natAbs : Int) := by omega
    have x1 : (a.natAbs : Int) - b < (c.natAbs : Int) := Int.lt_of_mul_lt_mul_left (a := (a.natAbs : Int)) (by omega) (by omega)
    have x2 : (c.natAbs : Int) < (a.natAbs : Int) + b := Int.lt_of_mul_lt_mul_left (a := (a.natAbs : Int)) (by omega) (by omega)
    rcases Int.lt_or_gt_of_ne a0 with k | k
    · have hc : 0 < c := by
        rcases Int.lt_or_gt_of_ne c0 with l | l
        · have := Int.mul_pos_of_neg_of_neg k l
          omega
        · exact l
      omega
    · have hc : c < 0 := by
        rcases Int.lt_or_gt_of_ne c0 with l | l
        · exact l
        · have := Int.mul_pos k l
          omega
      omega
  · rintro ⟨ac, h1, h2⟩
    have w : a * c = -((a.natAbs : Int) * (c.natAbs : Int)) := by
      have : ((a * c).natAbs : Int) = (a.natAbs : Int) * (c.natAbs : Int) := by rw [Int.natAbs_mul]; rfl
      omega
    have hs : (0 < a ∧ c < 0) ∨ (a < 0 ∧ 0 < c) := by
      rcases Int.lt_or_gt_of_ne a0 with k | k
      · rcases Int.lt_or_gt_of_ne c0 with l | l
        · have := Int.mul_pos_of_neg_of_neg k l
          omega
        · exact .inr ⟨k, l⟩
      · rcases Int.lt_or_gt_of_ne c0 with l | l
        · exact .inl ⟨k, l⟩
        · have := Int.mul_pos k l
          omega
    have x1 : (a.natAbs : Int) - b < (c.natAbs : Int) := by omega
    have x2 : (c.natAbs : Int) < (a.natAbs : Int) + b := by omega
    have b0 : 0 < b := by omega
    have A0 : 0 < (a.natAbs : Int) := by omega
    have y1 := Int.mul_lt_mul_of_pos_left x1 A0
    have y2 := Int.mul_lt_mul_of_pos_left x2 A0
    have v1 : (2 * (a.natAbs : Int) - b) * (2 * (a.natAbs : Int) - b) = 4 * ((a.natAbs : Int) * ((a.natAbs : Int) - b)) + b * b := by grind
    have v2 : (2 * (a.natAbs : Int) + b) * (2 * (a.natAbs : Int) + b) = 4 * ((a.natAbs : Int) * ((a.natAbs : Int) + b)) + b * b := by grind
    refine ⟨b0, root_le r0 r3 (by omega), ?_, root_gt (by omega) r2 (by omega)⟩
    exact root_le r0 r3 (by omega)
def rho (D : Int) (f : Fm) : Fm := actF f 0 (-1) 1 (nN D f.2.1 f.2.2)
def rhoN (D : Int) : Nat → Fm → Fm
  | 0, f => f
  | k + 1, f => rhoN D k (rho D f)
theorem rhoN_add (D : Int) : ∀ (j k : Nat) (f : Fm), rhoN D (j + k) f = rhoN D k (rhoN D j f)
  | 0, k, f => by rw [Nat.zero_add]; rfl
  | j + 1, k, f => by
    rw [show j + 1 + k = (j + k) + 1 by omega]
    exact rhoN_add D j k (rho D f)
theorem rho_eq {D : Int} {f : Fm} (F : IFf D f) : rho D f = (f.2.2, bN D f.2.1 f.2.2, f.1 - f.2.1 * nN D f.2.1 f.2.2 + f.2.2 * nN D f.2.1 f.2.2 * nN D f.2.1 f.2.2) := by
  obtain ⟨v1, v2, v3⟩ := bN_spec (D := D) (b := f.2.1) F.c0
  unfold rho actF
  refine fm_ext ?_ ?_ ?_
  · dsimp only
    unfold fA
    grind
  · dsimp only
    rw [← v3]
    unfold fB
    grind
  · dsimp only
    unfold fA
    grind
theorem rho_if {D : Int} {f : Fm} (F : IFf D f) : IFf D (rho D f) := F.act (by omega)
theorem rho_red {D : Int} {f : Fm} (F : IFf D f) (R : RDf D f) : RDf D (rho D f) := by
  rw [rho_eq F]
  exact F.nb R
theorem rho_only {D : Int} {f : Fm} {n : Int} (F : IFf D f) (h : rdF (actF f 0 (-1) 1 n)) : actF f 0 (-1) 1 n = rho D f := by
  have h2 := (red_iff (F.act (p := 0) (q := -1) (r := 1) (s := n) (by omega))).mpr h
  by_cases z : n = nN D f.2.1 f.2.2
  · rw [z]
    rfl
  · refine absurd ?_ (F.only z)
    have e1 : (actF f 0 (-1) 1 n).1 = f.2.2 := by unfold actF fA; grind
    have e2 : (actF f 0 (-1) 1 n).2.1 = -f.2.1 + 2 * f.2.2 * n := by unfold actF fB; grind
    unfold RDf at h2
    rw [e1, e2] at h2
    exact h2
theorem nxR_neg {f : Fm} (h : f.1 + f.2.1 + f.2.2 < 0) : nxR f = actF f 1 1 0 1 := by
  rw [actF_R]
  unfold nxR
  rw [if_pos h]
theorem nxR_pos {f : Fm} (h : ¬ f.1 + f.2.1 + f.2.2 < 0) : nxR f = actF f 1 0 1 1 := by
  rw [actF_L]
  unfold nxR
  rw [if_neg h]
def PhL (D : Int) (k : Nat) : Prop := ∀ (F X : Fm) (j : Int), IFf D F → X = actF F 1 0 j 1 → 0 < X.1 → X.2.2 < 0 → 0 < X.1 - X.2.1 + X.2.2 → rdF (nxN k X) → ∃ m, rhoN D m F = nxN k X
def PhR (D : Int) (k : Nat) : Prop := ∀ (F F0 X : Fm) (j : Int), IFf D F → actF F0 0 (-1) 1 0 = rho D F → X = actF F0 1 j 0 1 → 0 < X.1 → X.2.2 < 0 → X.1 - X.2.1 + X.2.2 < 0 → rdF (nxN k X) → ∃ m, rhoN D m F = nxN k X
theorem ph_two {D : Int} {F F0 X : Fm} {j : Int} (hF : IFf D F) (h0 : actF F0 0 (-1) 1 0 = rho D F) (hX : X = actF F0 1 j 0 1) (hr : rdF X) : rho D (rho D F) = X := by
  have e : actF (rho D F) 0 (-1) 1 j = X := by
    rw [← h0, actF_mul, hX, ← actF_neg F0 1 j 0 1]
    congr 1 <;> omega
  rw [← e] at hr ⊢
  exact (rho_only (rho_if hF) hr).symm
theorem ph_all (D : Int) : ∀ k, PhL D k ∧ PhR D k := by
  intro k
  induction k with
  | zero =>
    constructor
    · intro F X j hF hX x1 x2 x3 hr
      have := hr.2.2
      show ∃ m, rhoN D m F = X
      have : X.1 - X.2.1 + X.2.2 < 0 := hr.2.2
      omega
    · intro F F0 X j hF h0 hX x1 x2 x3 hr
      exact ⟨2, ph_two hF h0 hX hr⟩
  | succ k ih =>
    obtain ⟨ihL, ihR⟩ := ih
    have goL : ∀ (F X : Fm) (j : Int), IFf D F → X = actF F 1 0 j 1 → 0 < X.1 → X.2.2 < 0 → 0 < X.1 + X.2.1 + X.2.2 → rdF (nxN (k + 1) X) → ∃ m, rhoN D m F = nxN (k + 1) X := by
      intro F X j hF hX x1 x2 hs hr
      have en : nxN (k + 1) X = nxN k (actF X 1 0 1 1) := by
        show nxN k (nxR X) = _
        rw [nxR_pos (by omega)]
      rw [en] at hr ⊢
      have e2 : actF X 1 0 1 1 = actF F 1 0 (j + 1) 1 := by
        rw [hX, actF_mul]
        congr 1 <;> omega
      have e3 := actF_L X
      refine ihL F _ (j + 1) hF e2 ?_ ?_ ?_ hr
      · rw [e3]; exact hs
      · rw [e3]; exact x2
      · rw [e3]; dsimp only; omega
    constructor
    · intro F X j hF hX x1 x2 x3 hr
      have hXF : IFf D X := by rw [hX]; exact hF.act (by omega)
      by_cases hs : X.1 + X.2.1 + X.2.2 < 0
      · have en : nxN (k + 1) X = nxN k (actF X 1 1 0 1) := by
          show nxN k (nxR X) = _
          rw [nxR_neg hs]
        rw [en] at hr ⊢
        have e3 := actF_R X
        have eS : actF X 0 (-1) 1 0 = (X.2.2, -X.2.1, X.1) := by
          unfold actF
          refine fm_ext ?_ ?_ ?_ <;> (dsimp only; (try unfold fA); (try unfold fB); grind)
        have eJ : actF X 0 (-1) 1 0 = actF F 0 (-1) 1 (-j) := by
          rw [hX, actF_mul]
          congr 1 <;> omega
        have hrd : rdF (actF F 0 (-1) 1 (-j)) := by
          rw [← eJ, eS]
          refine ⟨?_, ?_, ?_⟩
          · exact Int.mul_neg_of_neg_of_pos x2 x1
          · show 0 < X.2.2 + -X.2.1 + X.1
            omega
          · show X.2.2 - -X.2.1 + X.1 < 0
            omega
        refine ihR F X _ 1 hF (eJ.trans (rho_only hF hrd)) rfl ?_ ?_ ?_ hr
        · rw [e3]; exact x1
        · rw [e3]; exact hs
        · rw [e3]; dsimp only; omega
      · have := hXF.sum
        exact goL F X j hF hX x1 x2 (by omega) hr
    · intro F F0 X j hF h0 hX x1 x2 x3 hr
      by_cases hs : X.1 + X.2.1 + X.2.2 < 0
      · have en : nxN (k + 1) X = nxN k (actF X 1 1 0 1) := by
          show nxN k (nxR X) = _
          rw [nxR_neg hs]
        rw [en] at hr ⊢
        have e3 := actF_R X
        have e2 : actF X 1 1 0 1 = actF F0 1 (j + 1) 0 1 := by
          rw [hX, actF_mul]
          congr 1 <;> omega
        refine ihR F F0 _ (j + 1) hF h0 e2 ?_ ?_ ?_ hr
        · rw [e3]; exact x1
        · rw [e3]; exact hs
        · rw [e3]; dsimp only; omega
      · have hF2 : IFf D (rho D (rho D F)) := rho_if (rho_if hF)
        have hsum : 0 < X.1 + X.2.1 + X.2.2 := by
          have hX0 : IFf D X := by
            have e : actF (rho D F) 0 (-1) 1 j = X := by
              rw [← h0, actF_mul, hX, ← actF_neg F0 1 j 0 1]
              congr 1 <;> omega
            rw [← e]
            exact (rho_if hF).act (by omega)
          have := hX0.sum
          omega
        have hrX : rdF X := ⟨Int.mul_neg_of_pos_of_neg x1 x2, hsum, x3⟩
        have e2 := ph_two hF h0 hX hrX
        rw [e2] at hF2
        obtain ⟨m, hm⟩ := goL X X 0 hF2 (actF_one X).symm x1 x2 hsum hr
        exact ⟨m + 2, by rw [Nat.add_comm, rhoN_add]; show rhoN D m (rho D (rho D F)) = _; rw [e2]; exact hm⟩
/-- reduced forms with a > 0 that stand on one river are in one cycle -/
theorem rv_cycle {D : Int} {F : Fm} {k : Nat} (hF : IFf D F) (ha : 0 < F.1) (hr : rdF F) (hg : rdF (nxN k F)) : ∃ m, rhoN D m F = nxN k F := by
  have hc : F.2.2 < 0 := by
    have := hr.1
    rcases Int.lt_or_le F.2.2 0 with l | l
    · exact l
    · have := Int.mul_nonneg (Int.le_of_lt ha) l
      omega
  cases k with
  | zero => exact ⟨0, rfl⟩
  | succ k =>
    have hs := hr.2.1
    have en : nxN (k + 1) F = nxN k (actF F 1 0 1 1) := by
      show nxN k (nxR F) = _
      rw [nxR_pos (by omega)]
    rw [en] at hg ⊢
    have e3 := actF_L F
    refine (ph_all D k).1 F _ 1 hF rfl ?_ ?_ ?_ hg
    · rw [e3]; exact hs
    · rw [e3]; exact hc
    · rw [e3]; dsimp only; omega

/-! ### it comes round -/
theorem IFf.mir {D : Int} {f : Fm} (F : IFf D f) : IFf D (f.2.2, f.2.1, f.1) := by
  refine ⟨?_, F.d0, F.d1, F.ns⟩
  have e := F.d
  unfold dsc at e ⊢
  dsimp only
  rw [← e]
  grind
theorem red_sym {D : Int} {f : Fm} (F : IFf D f) (R : RDf D f) : RedI D f.2.2 f.2.1 := by
  have h := (red_iff F).mp R
  have h2 : rdF (f.2.2, f.2.1, f.1) := by
    refine ⟨?_, ?_, ?_⟩
    · show f.2.2 * f.1 < 0
      rw [Int.mul_comm]
      exact h.1
    · show 0 < f.2.2 + f.2.1 + f.1
      have := h.2.1
      omega
    · show f.2.2 - f.2.1 + f.1 < 0
      have := h.2.2
      omega
  exact (red_iff F.mir).mpr h2
theorem rho_inj {D : Int} {f g : Fm} (F : IFf D f) (G : IFf D g) (Rf : RDf D f) (Rg : RDf D g) (h : rho D f = rho D g) : f = g := by
  rw [rho_eq F, rho_eq G] at h
  have h1 : f.2.2 = g.2.2 := congrArg (fun t : Fm => t.1) h
  have h2 : bN D f.2.1 f.2.2 = bN D g.2.1 g.2.2 := congrArg (fun t : Fm => t.2.1) h
  obtain ⟨_, _, v3⟩ := bN_spec (D := D) (b := f.2.1) F.c0
  obtain ⟨_, _, w3⟩ := bN_spec (D := D) (b := g.2.1) G.c0
  obtain ⟨p1, p2, p3, p4⟩ := red_sym F Rf
  obtain ⟨q1, q2, q3, q4⟩ := red_sym G Rg
  have c0 := F.c0
  rw [← h2, ← h1] at w3
  rw [← h1] at q3 q4
  have hb : f.2.1 = g.2.1 := by
    have e : f.2.1 - g.2.1 = 2 * (f.2.2 * (nN D f.2.1 f.2.2 - nN D g.2.1 f.2.2)) := by
      have : 2 * f.2.2 * nN D f.2.1 f.2.2 - 2 * f.2.2 * nN D g.2.1 f.2.2 = 2 * (f.2.2 * (nN D f.2.1 f.2.2 - nN D g.2.1 f.2.2)) := by grind
      omega
    by_cases z : nN D f.2.1 f.2.2 - nN D g.2.1 f.2.2 = 0
    · rw [z, Int.mul_zero] at e
      omega
    · have e2 : ((f.2.2 * (nN D f.2.1 f.2.2 - nN D g.2.1 f.2.2)).natAbs : Int) = (f.2.2.natAbs : Int) * ((nN D f.2.1 f.2.2 - nN D g.2.1 f.2.2).natAbs : Int) := by
        rw [Int.natAbs_mul]
        rfl
      have t := Int.mul_le_mul_of_nonneg_left (show 1 ≤ ((nN D f.2.1 f.2.2 - nN D g.2.1 f.2.2).natAbs : Int) by omega) (show 0 ≤ (f.2.2.natAbs : Int) by omega)
      omega
  refine fm_ext ?_ hb h1
  have e1 := F.d
  have e2 := G.d
  unfold dsc at e1 e2
  rw [← hb, ← h1, ← e1] at e2
  have e3 : f.2.2 * (4 * (f.1 - g.1)) = 0 := by grind
  have := (Int.mul_eq_zero.mp e3).resolve_left c0
  omega
theorem rhoN_ok {D : Int} : ∀ (k : Nat) {f : Fm}, IFf D f → RDf D f → IFf D (rhoN D k f) ∧ RDf D (rhoN D k f)
  | 0, _, F, R => ⟨F, R⟩
  | k + 1, _, F, R => rhoN_ok k (rho_if F) (rho_red F R)
theorem rhoN_inj {D : Int} : ∀ (k : Nat) {f g : Fm}, IFf D f → RDf D f → IFf D g → RDf D g → rhoN D k f = rhoN D k g → f = g
  | 0, _, _, _, _, _, _, h => h
  | k + 1, _, _, F, R, G, S, h => rho_inj F G R S (rhoN_inj k (rho_if F) (rho_red F R) (rho_if G) (rho_red G S) h)
theorem nodup_sub_len {α : Type} [DecidableEq α] : ∀ {l m : List α}, l.Nodup → (∀ x ∈ l, x ∈ m) → l.length ≤ m.length
  | [], _, _, _ => Nat.zero_le _
  | a :: l, m, h, hs => by
    obtain ⟨h1, h2⟩ := List.nodup_cons.mp h
    have ha := hs a List.mem_cons_self
    have := nodup_sub_len (l := l) (m := m.erase a) h2 (fun x hx => by
      refine (List.mem_erase_of_ne ?_).mpr (hs x (List.mem_cons_of_mem _ hx))
      rintro rfl
      exact h1 hx)
    rw [List.length_erase_of_mem ha] at this
    have := List.length_pos_of_mem ha
    rw [List.length_cons]
    omega
/-- a row of N + 1 that lie in a box of N has two alike -/
theorem two_alike {α : Type} [DecidableEq α] (u : Nat → α) (box : List α) (N : Nat) (hb : ∀ i, i ≤ N → u i ∈ box) (hN : box.length ≤ N) : ∃ i j, i < j ∧ j ≤ N ∧ u i = u j := by
  by_cases z : ∃ i j, i < j ∧ j ≤ N ∧ u i = u j
  · exact z
  · exfalso
    have hnd : ((List.range (N + 1)).map u).Nodup := by
      refine List.pairwise_map.mpr ((List.pairwise_lt_range (n := N + 1)).imp_of_mem ?_)
      intro a b ha hb hlt e
      have := List.mem_range.mp hb
      exact z ⟨a, b, hlt, by omega, e⟩
    have := nodup_sub_len hnd (m := box) (fun x hx => by
      obtain ⟨i, hi, rfl⟩ := List.mem_map.mp hx
      have := List.mem_range.mp hi
      exact hb i (by omega))
    rw [List.length_map, List.length_range] at this
    omega
/-- a cycle's length: the first return -/
structure Cyc (D : Int) (f : Fm) (n : Nat) : Prop where
  n0 : 0 < n
  back : rhoN D n f = f
  first : ∀ k, 0 < k → k < n → rhoN D k f ≠ f
theorem cyc_of {D : Int} {f : Fm} (F : IFf D f) (R : RDf D f) {box : List Fm} (hb : ∀ i, rhoN D i f ∈ box) : ∃ n, Cyc D f n ∧ n ≤ box.length := by
  obtain ⟨i, j, hij, hj, e⟩ := two_alike (fun i => rhoN D i f) box box.length (fun i _ => hb i) (Nat.le_refl _)
  have e2 : rhoN D (j - i) f = f := by
    have h1 : rhoN D i (rhoN D (j - i) f) = rhoN D i f := by
      rw [← rhoN_add, show j - i + i = j by omega]
      exact e.symm
    exact rhoN_inj i (rhoN_ok (j - i) F R).1 (rhoN_ok (j - i) F R).2 F R h1
  -- the least one
  have least : ∀ m, 0 < m → rhoN D m f = f → ∃ n, Cyc D f n ∧ n ≤ m := by
    intro m
    induction m using Nat.strongRecOn with
    | _ m ih =>
      intro m0 hm
      by_cases z : ∃ k, 0 < k ∧ k < m ∧ rhoN D k f = f
      · obtain ⟨k, k0, km, hk⟩ := z
        obtain ⟨n, hn, hl⟩ := ih k km k0 hk
        exact ⟨n, hn, by omega⟩
      · exact ⟨m, ⟨m0, hm, fun k k0 km hk => z ⟨k, k0, km, hk⟩⟩, Nat.le_refl _⟩
  obtain ⟨n, hn, hl⟩ := least (j - i) (by omega) e2
  exact ⟨n, hn, by omega⟩
theorem rhoN_mul {D : Int} {f : Fm} {n : Nat} (h : rhoN D n f = f) : ∀ k, rhoN D (n * k) f = f
  | 0 => rfl
  | k + 1 => by rw [Nat.mul_succ, Nat.add_comm, rhoN_add, h, rhoN_mul h k]
theorem rhoN_back {D : Int} {f g : Fm} {n k : Nat} (n0 : 0 < n) (h : rhoN D n f = f) (e : rhoN D k f = g) : ∃ m, rhoN D m g = f := by
  refine ⟨n * (k + 1) - k, ?_⟩
  rw [← e, ← rhoN_add]
  have hle : k ≤ n * (k + 1) := by
    have := Nat.mul_le_mul_right (k + 1) n0
    omega
  rw [show k + (n * (k + 1) - k) = n * (k + 1) by omega]
  exact rhoN_mul h (k + 1)
/-- reduced forms of one class are in one cycle -/
theorem class_cycle {D : Int} {F G : Fm} {p q r s : Int} (per : ∀ f, IFf D f → RDf D f → ∃ n, 0 < n ∧ rhoN D n f = f) (hF : IFf D F) (hG : IFf D G) (rF : RDf D F) (rG : RDf D G) (hd : p * s - q * r = 1) (e : G = actF F p q r s) : ∃ m, rhoN D m F = G := by
  have pos : ∀ (F G : Fm) (p q r s : Int), IFf D F → IFf D G → RDf D F → RDf D G → p * s - q * r = 1 → G = actF F p q r s → 0 < F.1 → 0 < G.1 → ∃ m, rhoN D m F = G := by
    intro F G p q r s hF hG rF rG hd e aF aG
    have dF := (red_iff hF).mp rF
    have dG := (red_iff hG).mp rG
    have cneg : ∀ f : Fm, 0 < f.1 → rdF f → f.2.2 < 0 := by
      intro f ha h
      rcases Int.lt_or_le f.2.2 0 with l | l
      · exact l
      · have := Int.mul_nonneg (Int.le_of_lt ha) l
        have := h.1
        omega
    rcases rv_one hd (f := F) ⟨aF, cneg F aF dF⟩ (by rw [← e]; exact ⟨aG, cneg G aG dG⟩) with ⟨k, hk⟩ | ⟨k, hk⟩
    · rw [← e] at hk
      obtain ⟨m, hm⟩ := rv_cycle hF aF dF (k := k) (by rw [hk]; exact dG)
      exact ⟨m, hm.trans hk⟩
    · rw [← e] at hk
      obtain ⟨m, hm⟩ := rv_cycle hG aG dG (k := k) (by rw [hk]; exact dF)
      obtain ⟨n, n0, hn⟩ := per G hG rG
      exact rhoN_back n0 hn (hm.trans hk)
  have flip : ∀ f : Fm, IFf D f → RDf D f → ¬ 0 < f.1 → 0 < (rho D f).1 := by
    intro f hf rf h
    rw [rho_eq hf]
    show 0 < f.2.2
    have h1 := ((red_iff hf).mp rf).1
    have a0 := hf.a0
    rcases Int.lt_or_le 0 f.2.2 with l | l
    · exact l
    · have := Int.mul_nonneg_of_nonpos_of_nonpos (show f.1 ≤ 0 by omega) l
      omega
  -- behind one step where a is below 0
  have half : ∀ (F : Fm) (p q r s : Int), IFf D F → RDf D F → p * s - q * r = 1 → G = actF F p q r s → 0 < F.1 → ∃ m, rhoN D m F = G := by
    intro F p q r s hF rF hd e aF
    by_cases aG : 0 < G.1
    · exact pos F G p q r s hF hG rF rG hd e aF aG
    · have key : ∀ n, actF G 0 (-1) 1 n = actF F (p * 0 + q * 1) (p * -1 + q * n) (r * 0 + s * 1) (r * -1 + s * n) := fun n => by
        rw [e, actF_mul]
      obtain ⟨m, hm⟩ := pos F (rho D G) _ _ _ _ hF (rho_if hG) rF (rho_red hG rG) (by rw [← hd]; grind) (key (nN D G.2.1 G.2.2)) aF (flip G hG rG aG)
      obtain ⟨n, n0, hn⟩ := per G hG rG
      obtain ⟨t, ht⟩ := rhoN_back (k := 1) n0 hn rfl
      exact ⟨m + t, by rw [rhoN_add, hm]; exact ht⟩
  by_cases aF : 0 < F.1
  · exact half F p q r s hF rF hd e aF
  · have eF := actF_inv F (p := 0) (q := -1) (r := 1) (s := nN D F.2.1 F.2.2) (by omega)
    have e2 : G = actF (rho D F) (nN D F.2.1 F.2.2 * p + - -1 * r) (nN D F.2.1 F.2.2 * q + - -1 * s) (-1 * p + 0 * r) (-1 * q + 0 * s) := by
      rw [e]
      conv => lhs; rw [← eF]
      rw [actF_mul]
      rfl
    obtain ⟨m, hm⟩ := half (rho D F) _ _ _ _ (rho_if hF) (rho_red hF rF) (by rw [← hd]; grind) e2 (flip F hF rF aF)
    exact ⟨m + 1, hm⟩

/-! ### min of a list of data -/
def rMinD (K : PySem.W.Frag) (α : Type) [DecidableEq α] [PySem.W.DatumOrd α] : List V → Hp → VK → Prop := fun vs H Q => ∃ (a : Addr) (ys : List V) (x : α) (xs : List α), vs = [V.ref a] ∧ SqL K H a ys ∧ DpAll K H ys ((x :: xs).map PySem.W.Datum.toD) ∧
  ∀ (i : Nat) (y : V), ys[i]? = some y → (x :: xs)[i]? = some (PySem.W.minOf x xs) → Q y H
theorem cr_minD {X : Cx} {α : Type} [DecidableEq α] [PySem.W.DatumOrd α] (hc : X.calm = true) (hu : X.A.units + 1 + PySem.W.Datum.depth α < cLine) : CallR X (.builtin "min") (rMinD X.K α) := by
  intro pins s σ H vs us Q I r h
  obtain ⟨a, ys, x, xs, rfl, hs, hd, q⟩ := h
  obtain ⟨its, rv, hl, _⟩ := I.list hs
  rw [Vals.ref1 r]
  obtain ⟨as, ra⟩ := Dp.readsAll I _ _ its hd rv
  refine PySem.W.min_list_data (vs := its.toArray) (I.ok.hd hc) hl.isList ra (PySem.W.alikeAll_datum (x :: xs)) (PySem.W.room_all (PySem.W.depthAll_map (x :: xs)) hu) fun i v h' tk bs hi rr hk => ?_
  have hi2 : its[i]? = some v := by simpa using hi
  obtain ⟨cs, r1, hlt, _, _⟩ := PySem.W.readsAll_at (vs := its) ra i v hi2
  have hl2 : i < (x :: xs).length := by simpa using hlt
  have e1 : ((x :: xs).map PySem.W.Datum.toD).getD i .none = PySem.W.Datum.toD ((x :: xs)[i]) := by
    rw [List.getD_eq_getElem?_getD, List.getElem?_map, List.getElem?_eq_getElem hl2]
    rfl
  rw [e1] at r1
  have e2 := (PyProof.Rows.reads_det (fun b o e _ => hk b o e) r1 rr).1
  rw [show (PySem.W.minD (PySem.W.Datum.toD x) (xs.map PySem.W.Datum.toD)) = PySem.W.Datum.toD (PySem.W.minOf x xs) from PySem.W.minD_map x xs] at e2
  have e3 : (x :: xs)[i] = PySem.W.minOf x xs := by
    have h1 := PySem.W.Datum.eqv ((x :: xs)[i]) (PySem.W.minOf x xs)
    rw [← e2, PySem.W.Datum.eqv] at h1
    simpa using h1
  have hlen := rv.length
  have hi3 : i < its.length := (List.getElem?_eq_some_iff.mp hi2).1
  have hy : ys[i]? = some (ys[i]'(by omega)) := List.getElem?_eq_getElem (by omega)
  obtain ⟨u, hu1, hu2⟩ := rv.get hy
  rw [hi2] at hu1
  cases hu1
  exact ⟨_, H, I.kept hk, hu2, q i _ hy (by rw [List.getElem?_eq_getElem hl2, e3])⟩
theorem minDQ {X : Cx} (K : PySem.W.Frag) (α : Type) [DecidableEq α] [PySem.W.DatumOrd α] (hc : X.calm = true) (hu : X.A.units + 65 < cLine) (hd : PySem.W.Datum.depth α ≤ 64 := by decide) (h : X.K = K := by rfl) : CallR X (.builtin "min") (rMinD K α) := by
  subst h
  exact cr_minD hc (by omega)
section
variable {α β : Type} [DecidableEq α] [PySem.W.DatumOrd α] [DecidableEq β] [PySem.W.DatumOrd β]
theorem ord_irr (a : α) : PySem.W.DatumOrd.lt a a = false := by
  rw [← PySem.W.DatumOrd.lt_eq]
  exact PySem.W.dataLt_self _
theorem ord_trans {a b c : α} (h1 : PySem.W.DatumOrd.lt a b = true) (h2 : PySem.W.DatumOrd.lt b c = true) : PySem.W.DatumOrd.lt a c = true := by
  rw [← PySem.W.DatumOrd.lt_eq] at *
  exact PyProof.Rows.lex_trans _ _ _ h1 h2
theorem min_fst : ∀ (xs : List (α × β)) (x : α × β), (PySem.W.minOf x xs).1 = PySem.W.minOf x.1 (xs.map (·.1))
  | [], x => rfl
  | y :: ys, x => by
    have h := min_fst ys
    unfold PySem.W.minOf at *
    rw [List.map_cons, List.foldl_cons, List.foldl_cons, h]
    congr 1
    show (if (if y.1 = x.1 then PySem.W.DatumOrd.lt y.2 x.2 else PySem.W.DatumOrd.lt y.1 x.1) = true then y else x).1 = _
    by_cases e : y.1 = x.1
    · rw [if_pos e, e, ite_self]
      split
      · exact e
      · rfl
    · rw [if_neg e]
      split <;> rfl
theorem min_spec : ∀ (xs : List α) (x : α), PySem.W.minOf x xs ∈ x :: xs ∧ ∀ y ∈ x :: xs, PySem.W.DatumOrd.lt y (PySem.W.minOf x xs) = false
  | [], x => ⟨List.mem_cons_self, fun y hy => by
      cases List.mem_singleton.mp hy
      exact ord_irr _⟩
  | z :: zs, x => by
    have e : PySem.W.minOf x (z :: zs) = PySem.W.minOf (if PySem.W.DatumOrd.lt z x = true then z else x) zs := rfl
    by_cases c : PySem.W.DatumOrd.lt z x = true
    · rw [if_pos c] at e
      obtain ⟨h1, h2⟩ := min_spec zs z
      rw [e]
      refine ⟨List.mem_cons_of_mem _ h1, fun y hy => ?_⟩
      rcases List.mem_cons.mp hy with rfl | hy
      · cases k : PySem.W.DatumOrd.lt y (PySem.W.minOf z zs)
        · rfl
        · have := h2 z List.mem_cons_self
          rw [ord_trans c k] at this
          exact this
      · exact h2 y hy
    · rw [if_neg c] at e
      obtain ⟨h1, h2⟩ := min_spec zs x
      rw [e]
      refine ⟨?_, fun y hy => ?_⟩
      · rcases List.mem_cons.mp h1 with h | h
        · rw [h]
          exact List.mem_cons_self
        · exact List.mem_cons_of_mem _ (List.mem_cons_of_mem _ h)
      · rcases List.mem_cons.mp hy with rfl | hy
        · exact h2 _ List.mem_cons_self
        · rcases List.mem_cons.mp hy with rfl | hy
          · cases k : PySem.W.DatumOrd.lt y (PySem.W.minOf x zs)
            · rfl
            · exfalso
              -- y < min, x not above it: min is x or one of zs
              have hx := h2 x List.mem_cons_self
              have c2 : PySem.W.DatumOrd.lt y x = false := by
                cases q : PySem.W.DatumOrd.lt y x
                · rfl
                · exact absurd q c
              rw [← PySem.W.DatumOrd.lt_eq] at k hx c2
              rcases (PyProof.Rows.lex_negTrans (O := PyProof.Rows.itemOrd) _ (PySem.W.keyToks (PySem.W.Datum.toD x)) _ k : _ ∨ _) with t | t
              · exact absurd (show PySem.W.dataLt _ _ = true from t) (by rw [c2]; decide)
              · exact absurd (show PySem.W.dataLt _ _ = true from t) (by rw [hx]; decide)
          · exact h2 y (List.mem_cons_of_mem _ hy)
end
theorem ints_total : ∀ a b : List Int, PySem.W.listLt a b = false → PySem.W.listLt b a = false → a = b
  | [], [], _, _ => rfl
  | [], _ :: _, h, _ => by exact absurd h (by unfold PySem.W.listLt; decide)
  | _ :: _, [], _, h => by exact absurd h (by unfold PySem.W.listLt; decide)
  | x :: xs, y :: ys, h1, h2 => by
    unfold PySem.W.listLt at h1 h2
    by_cases e : x = y
    · subst e
      rw [if_pos rfl] at h1 h2
      rw [ints_total xs ys h1 h2]
    · rw [if_neg e] at h1
      rw [if_neg (fun h => e h.symm)] at h2
      have k1 : ¬ x < y := of_decide_eq_false h1
      have k2 : ¬ y < x := of_decide_eq_false h2
      omega
/-- the least depends on what stands there alone -/
theorem min_alike {x y : PySem.W.Tup Int} {xs ys : List (PySem.W.Tup Int)} (h1 : ∀ z, z ∈ x :: xs → z ∈ y :: ys) (h2 : ∀ z, z ∈ y :: ys → z ∈ x :: xs) : PySem.W.minOf x xs = PySem.W.minOf y ys := by
  obtain ⟨a1, a2⟩ := min_spec xs x
  obtain ⟨b1, b2⟩ := min_spec ys y
  have k1 := a2 _ (h2 _ b1)
  have k2 := b2 _ (h1 _ a1)
  have e := ints_total _ _ k2 k1
  generalize PySem.W.minOf x xs = u at *
  generalize PySem.W.minOf y ys = v at *
  cases u
  cases v
  exact congrArg _ e

/-! ### lists of pairs of int tuples -/
def pD (p : List Int × List Int) : PyData := .tuple [tD p.1, tD p.2]
inductive Pps (K : PySem.W.Frag) (H : Hp) : List V → List (List Int × List Int) → Prop where
  | nil : Pps K H [] []
  | cons {a x y : Addr} {f m : List Int} {vs : List V} {ps : List (List Int × List Int)} : SqT K H a [.ref x, .ref y] → SqT K H x (f.map V.int) → SqT K H y (m.map V.int) → Pps K H vs ps → Pps K H (.ref a :: vs) ((f, m) :: ps)
theorem Pps.kt {K : PySem.W.Frag} {H H' : Hp} (s : KT K H H') : ∀ {vs : List V} {ts : List (List Int × List Int)}, Pps K H vs ts → Pps K H' vs ts
  | _, _, .nil => .nil
  | _, _, .cons h h1 h2 t => .cons (s _ _ h) (s _ _ h1) (s _ _ h2) (t.kt s)
theorem Pps.same {K : PySem.W.Frag} {H H' : Hp} {vs : List V} {ts : List (List Int × List Int)} (h : Pps K H vs ts) (s : Same H H') : Pps K H' vs ts := h.kt (same_kt s)
theorem Pps.len {K : PySem.W.Frag} {H : Hp} : ∀ {vs : List V} {ts : List (List Int × List Int)}, Pps K H vs ts → vs.length = ts.length
  | _, _, .nil => rfl
  | _, _, .cons _ _ _ t => by rw [List.length_cons, List.length_cons, t.len]
theorem Pps.app {K : PySem.W.Frag} {H : Hp} : ∀ {vs ws : List V} {ts us : List (List Int × List Int)}, Pps K H vs ts → Pps K H ws us → Pps K H (vs ++ ws) (ts ++ us)
  | _, _, _, _, .nil, h => h
  | _, _, _, _, .cons a b c t, h => .cons a b c (t.app h)
theorem Pps.snoc {K : PySem.W.Frag} {H : Hp} {vs : List V} {ts : List (List Int × List Int)} {a x y : Addr} {f m : List Int} (h : Pps K H vs ts) (s : SqT K H a [.ref x, .ref y]) (s1 : SqT K H x (f.map V.int)) (s2 : SqT K H y (m.map V.int)) : Pps K H (vs ++ [.ref a]) (ts ++ [(f, m)]) := h.app (.cons s s1 s2 .nil)
theorem Pps.at {K : PySem.W.Frag} {H : Hp} : ∀ {vs : List V} {ts : List (List Int × List Int)} {i : Nat} {x : V}, Pps K H vs ts → vs[i]? = some x → ∃ a u v f m, x = .ref a ∧ ts[i]? = some (f, m) ∧ SqT K H a [.ref u, .ref v] ∧ SqT K H u (f.map V.int) ∧ SqT K H v (m.map V.int)
  | _, _, _, _, .nil, h => by cases h
  | _, _, 0, _, .cons s s1 s2 t, h => by
    cases h
    exact ⟨_, _, _, _, _, rfl, rfl, s, s1, s2⟩
  | _, _, i + 1, _, .cons _ _ _ t, h => t.at (i := i) h
theorem Pps.dp {K : PySem.W.Frag} {H : Hp} : ∀ {vs : List V} {ts : List (List Int × List Int)}, Pps K H vs ts → DpAll K H vs (ts.map pD)
  | _, _, .nil => .nil
  | _, _, .cons h h1 h2 t => .cons (.tup h (.cons (.tup h1 (dp_ints _)) (.cons (.tup h2 (dp_ints _)) .nil))) t.dp
/-- the firsts of the pairs -/
theorem Pps.firsts {K : PySem.W.Frag} {H : Hp} : ∀ {vs : List V} {ts : List (List Int × List Int)}, Pps K H vs ts → ∃ zs : List V, Tps K H zs (ts.map (·.1)) ∧ ∀ (i : Nat) (v : V), vs[i]? = some v → ∃ a x y : Addr, v = V.ref a ∧ SqT K H a [.ref x, .ref y] ∧ zs[i]? = some (V.ref x)
  | _, _, .nil => ⟨[], .nil, fun i v h => by cases h⟩
  | _, _, .cons h h1 h2 t => by
    obtain ⟨zs, z1, z2⟩ := t.firsts
    refine ⟨_ :: zs, .cons h1 z1, fun i v hv => ?_⟩
    cases i with
    | zero =>
      cases hv
      exact ⟨_, _, _, rfl, h, rfl⟩
    | succ i => exact z2 i v hv
theorem lay_pps : ∀ ts : List (List Int × List Int), PyData.canLayAll0 (ts.map pD) = true
  | [] => rfl
  | t :: ts => by
    rw [List.map_cons, PyData.canLayAll0, lay_pps ts]
    unfold pD tD
    rw [PyData.canLay0, PyData.canLayAll0, PyData.canLayAll0, PyData.canLayAll0, PyData.canLay0, PyData.canLay0, lay_ints, lay_ints]
    rfl
theorem depth_pps : ∀ ts : List (List Int × List Int), PyData.depthAll (ts.map pD) ≤ 2
  | [] => by rw [List.map_nil, PyData.depthAll]; decide
  | t :: ts => by
    rw [List.map_cons, PyData.depthAll]
    unfold pD tD
    rw [PyData.depth, PyData.depthAll, PyData.depthAll, PyData.depthAll, PyData.depth, PyData.depth, depth_ints, depth_ints]
    exact Nat.max_le.mpr ⟨by decide, depth_pps ts⟩
theorem shaped_pps (ts : List (List Int × List Int)) : SeqAt.shaped (.list (ts.map pD)) = true := by
  show (PyData.canLay0 (.list (ts.map pD)) && decide (PyData.depth (.list (ts.map pD)) ≤ 64)) = true
  rw [Bool.and_eq_true]
  refine ⟨by rw [PyData.canLay0]; exact lay_pps ts, decide_eq_true ?_⟩
  rw [PyData.depth]
  have := depth_pps ts
  omega
theorem eqvAll_pps : ∀ ts us : List (List Int × List Int), PyData.eqvAll (ts.map pD) (us.map pD) = decide (ts = us)
  | [], [] => by simp [PyData.eqvAll]
  | [], _ :: _ => by simp [PyData.eqvAll]
  | _ :: _, [] => by simp [PyData.eqvAll]
  | t :: ts, u :: us => by
    rw [List.map_cons, List.map_cons, PyData.eqvAll, eqvAll_pps ts us]
    unfold pD tD
    rw [PyData.eqv, PyData.eqvAll, PyData.eqvAll, PyData.eqvAll, R.eqB, R.eqB]
    obtain ⟨t1, t2⟩ := t
    obtain ⟨u1, u2⟩ := u
    by_cases h : t1 = u1 <;> by_cases h2 : t2 = u2 <;> simp [h, h2]
namespace R
theorem eqPps {K : PySem.W.Frag} {H : Hp} {Q : VK} {p q : Addr} {vs ws : List V} {ts us : List (List Int × List Int)} (h1 : SqL K H p vs) (t1 : Pps K H vs ts) (h2 : SqL K H q ws) (t2 : Pps K H ws us) (h : Q (.bl (decide (ts = us))) H) : rEqD K (.ref p) (.ref q) H Q := by
  refine ⟨_, _, .lst h1 t1.dp, .lst h2 t2.dp, shaped_pps _, shaped_pps _, ?_⟩
  rw [PyData.eqv, eqvAll_pps]
  exact h
theorem nePps {K : PySem.W.Frag} {H : Hp} {Q : VK} {p q : Addr} {vs ws : List V} {ts us : List (List Int × List Int)} (h1 : SqL K H p vs) (t1 : Pps K H vs ts) (h2 : SqL K H q ws) (t2 : Pps K H ws us) (h : Q (.bl (!decide (ts = us))) H) : rNeD K (.ref p) (.ref q) H Q := by
  refine ⟨_, _, .lst h1 t1.dp, .lst h2 t2.dp, shaped_pps _, shaped_pps _, ?_⟩
  rw [PyData.eqv, eqvAll_pps]
  exact h
section
variable {K : PySem.W.Frag} {te : TE} {σ : L2.St} {H : Hp} {Q : VK}
/-- a comprehension over a list of any things whose results are known -/
theorem lcV {a : Addr} {ys zs : List V} {g : TG} {vs : List Nat} (hz : zs.length = ys.length) (hl : ys.length ≤ 100000) (hT : SqL K H a ys)
    (hs : ∀ (i : Nat) (y z : V) (H' : Hp) (Q' : VK), ys[i]? = some y → zs[i]? = some z → Same H H' → Q' z H' → g y (wipe σ vs) H' fun σ2 H2 => wipe σ2 vs = wipe σ vs ∧ te σ2 H2 Q')
    (hq : ∀ H' D, H' D = some (.lst zs) → Same H H' → H D = none → Q (.ref D) H') : LcJ (Itl K a) g tYes te vs σ H Q := by
  intro D nD
  refine lc_list (K := K) (a := a) (xs := ys) (fun i H' => H' D = some (.lst (zs.take i)) ∧ Same H H') ⟨upd_same, same_upd nD⟩ (fun i H' _ h => h.2.seq hT) (fun i x H5 hx ⟨h1, h5⟩ => ?_) (fun H5 ⟨h1, h5⟩ => ?_)
  · have hi : i < ys.length := (List.getElem?_eq_some_iff.mp hx).1
    have hzi : zs[i]? = some (zs[i]'(by omega)) := List.getElem?_eq_getElem (by omega)
    refine hs i x _ H5 _ hx hzi h5 ⟨_, h1, ?_, ?_, ?_⟩
    · rw [List.length_take]
      exact Nat.lt_of_le_of_lt (by omega : min i zs.length ≤ 100000) (by decide)
    · rw [upd_same, List.take_add_one, hzi]
      rfl
    · exact same_mut h5 nD
  · rw [← hz, List.take_length] at h1
    exact hq H5 D h1 h5 nD
theorem minTps {a : Addr} {vs : List V} {t : List Int} {ts : List (List Int)} (h1 : SqL K H a vs) (t1 : Tps K H vs (t :: ts)) (h : ∀ (i : Nat) (x : Addr) (u : List Int), (t :: ts)[i]? = some u → SqT K H x (u.map V.int) → PySem.W.Tup.mk u = PySem.W.minOf (PySem.W.Tup.mk t) (ts.map PySem.W.Tup.mk) → Q (.ref x) H) : rMinD K (PySem.W.Tup Int) [.ref a] H Q := by
  have e : ∀ l : List (List Int), l.map tD = (l.map PySem.W.Tup.mk).map PySem.W.Datum.toD := fun l => by
    rw [List.map_map]
    rfl
  have d := t1.dp
  rw [e] at d
  refine ⟨a, vs, PySem.W.Tup.mk t, ts.map PySem.W.Tup.mk, rfl, h1, d, fun i y hy hm => ?_⟩
  obtain ⟨x, u, rfl, hu, hs⟩ := t1.at hy
  refine h i x u hu hs ?_
  rw [show PySem.W.Tup.mk t :: ts.map PySem.W.Tup.mk = (t :: ts).map PySem.W.Tup.mk from rfl, List.getElem?_map, hu] at hm
  exact Option.some.inj hm
def pT (p : List Int × List Int) : PySem.W.Tup Int × PySem.W.Tup Int := (PySem.W.Tup.mk p.1, PySem.W.Tup.mk p.2)
theorem minPps {a : Addr} {vs : List V} {t : List Int × List Int} {ts : List (List Int × List Int)} (h1 : SqL K H a vs) (t1 : Pps K H vs (t :: ts)) (h : ∀ (i : Nat) (x u v : Addr) (f m : List Int), (t :: ts)[i]? = some (f, m) → SqT K H x [.ref u, .ref v] → SqT K H u (f.map V.int) → SqT K H v (m.map V.int) → PySem.W.Tup.mk f = PySem.W.minOf (PySem.W.Tup.mk t.1) ((ts.map (·.1)).map PySem.W.Tup.mk) → Q (.ref x) H) : rMinD K (PySem.W.Tup Int × PySem.W.Tup Int) [.ref a] H Q := by
  have e : ∀ l : List (List Int × List Int), l.map pD = (l.map pT).map PySem.W.Datum.toD := fun l => by
    rw [List.map_map]
    rfl
  have d := t1.dp
  rw [e] at d
  refine ⟨a, vs, pT t, ts.map pT, rfl, h1, d, fun i y hy hm => ?_⟩
  obtain ⟨x, u, v, f, m, rfl, hu, hs, hf, hm2⟩ := t1.at hy
  refine h i x u v f m hu hs hf hm2 ?_
  rw [show pT t :: ts.map pT = (t :: ts).map pT from rfl, List.getElem?_map, hu] at hm
  have e2 := congrArg Prod.fst (Option.some.inj hm)
  rw [min_fst, List.map_map] at e2
  rw [List.map_map]
  exact e2
end
end R

theorem kt_off {K : PySem.W.Frag} {H : Hp} {l : Addr} {xs ys : List V} (hl : H l = some (.lst xs)) : KT K H (upd H l (.lst ys)) := fun c zs h => by
  rcases h with (h | ⟨o, h⟩) | h
  · refine .inl (.inl ?_)
    rw [upd_ne (ne_of h hl (by intro z; cases z))]
    exact h
  · refine .inl (.inr ⟨o, ?_⟩)
    rw [upd_ne (ne_of h hl (by intro z; cases z))]
    exact h
  · exact .inr h
theorem red_bd {D a b c : Int} (F : IF D a b c) (h : RedI D a b) : Bd 60 a ∧ Bd 60 b ∧ Bd 60 c := by
  obtain ⟨s1, s2, s3⟩ := F.sizes h
  obtain ⟨r0, r1, _⟩ := F.root
  have b0 := h.1
  have b1 := h.2.1
  exact ⟨Bd.om (by omega), Bd.om (by omega), Bd.om (by omega)⟩
/-! ### cycles as lists -/
abbrev M4 := Int × Int × Int × Int
def fL (f : Fm) : List Int := [f.1, f.2.1, f.2.2]
def mL (m : M4) : List Int := [m.1, m.2.1, m.2.2.1, m.2.2.2]
theorem fL_inj {f g : Fm} (h : fL f = fL g) : f = g := by
  unfold fL at h
  injection h with h1 h
  injection h with h2 h
  injection h with h3 h
  exact fm_ext h1 h2 h3
def nK (D : Int) (f : Fm) : Int := nN D f.2.1 f.2.2
def mStep (m : M4) (n : Int) : M4 := (m.1 * 0 + m.2.1 * 1, m.1 * (-1) + m.2.1 * n, m.2.2.1 * 0 + m.2.2.2 * 1, m.2.2.1 * (-1) + m.2.2.2 * n)
def mN (D : Int) (f : Fm) : Nat → M4
  | 0 => (1, 0, 0, 1)
  | k + 1 => mStep (mN D f k) (nK D (rhoN D k f))
def actM (f : Fm) (m : M4) : Fm := actF f m.1 m.2.1 m.2.2.1 m.2.2.2
def detM (m : M4) : Int := m.1 * m.2.2.2 - m.2.1 * m.2.2.1
def BdM (n : Nat) (m : M4) : Prop := Bd n m.1 ∧ Bd n m.2.1 ∧ Bd n m.2.2.1 ∧ Bd n m.2.2.2
theorem rhoN_succ (D : Int) (k : Nat) (f : Fm) : rhoN D (k + 1) f = rho D (rhoN D k f) := rhoN_add D k 1 f
theorem nK_small {D : Int} {f : Fm} (F : IFf D f) (R : RDf D f) : (nK D f).natAbs ≤ 100 := by
  obtain ⟨a, b, c⟩ := f
  have F' : IF D a b c := F
  have R' : RedI D a b := R
  obtain ⟨v1, v2, v3⟩ := bN_spec (D := D) (b := b) F'.c0
  obtain ⟨s1, s2, s3⟩ := F'.sizes R'
  obtain ⟨r0, r1, _⟩ := F'.root
  have b0 := R'.1
  have b1 := R'.2.1
  have c0 := F'.c0
  show (nN D b c).natAbs ≤ 100
  generalize nN D b c = n at *
  have e : ((2 * c * n).natAbs : Int) = 2 * ((c.natAbs : Int) * (n.natAbs : Int)) := by
    rw [Int.mul_assoc, Int.natAbs_mul, Int.natAbs_mul]
    rfl
  have t := Int.mul_le_mul_of_nonneg_right (show 1 ≤ (c.natAbs : Int) by omega) (show 0 ≤ (n.natAbs : Int) by omega)
  have : ((2 * c * n).natAbs : Int) ≤ 200 := by omega
  omega
theorem mN_one (D : Int) (f : Fm) : mL (mN D f (0 + 1)) = [0, -1, 1, nK D f] := by
  show [1 * 0 + 0 * 1, 1 * (-1) + 0 * nK D f, 0 * 0 + 1 * 1, 0 * (-1) + 1 * nK D f] = _
  rw [Int.one_mul, Int.zero_mul, Int.one_mul]
  simp
theorem mN_ok {D : Int} {f : Fm} (F : IFf D f) (R : RDf D f) : ∀ k, detM (mN D f k) = 1 ∧ rhoN D k f = actM f (mN D f k) ∧ BdM (14 * k + 1) (mN D f k)
  | 0 => ⟨rfl, (actF_one f).symm, (by unfold Bd; decide : Bd 1 1), (by unfold Bd; decide : Bd 1 0), (by unfold Bd; decide : Bd 1 0), (by unfold Bd; decide : Bd 1 1)⟩
  | k + 1 => by
    obtain ⟨h1, h2, h3⟩ := mN_ok F R k
    obtain ⟨Fk, Rk⟩ := rhoN_ok k F R
    have hn : Bd 10 (nK D (rhoN D k f)) := Bd.of (nK_small Fk Rk) (by decide)
    have e : rhoN D (k + 1) f = actF (rhoN D k f) 0 (-1) 1 (nK D (rhoN D k f)) := rhoN_succ D k f
    rw [e]
    show detM (mStep _ _) = 1 ∧ _ = actM f (mStep _ _) ∧ BdM _ (mStep _ _)
    generalize nK D (rhoN D k f) = n at *
    generalize mN D f k = m at *
    obtain ⟨p, q, r, s⟩ := m
    have y0 : Bd 1 0 := by unfold Bd; decide
    have y1 : Bd 1 1 := by unfold Bd; decide
    have ym : Bd 1 (-1) := by unfold Bd; decide
    obtain ⟨e1, e2, e3, e4⟩ := h3
    dsimp only at e1 e2 e3 e4
    have h1' : p * s - q * r = 1 := h1
    refine ⟨?_, ?_, ((e1.mul y0).add (e2.mul y1)).mono (by omega), ((e1.mul ym).add (e2.mul hn)).mono (by omega), ((e3.mul y0).add (e4.mul y1)).mono (by omega), ((e3.mul ym).add (e4.mul hn)).mono (by omega)⟩
    · show (p * 0 + q * 1) * (r * (-1) + s * n) - (p * (-1) + q * n) * (r * 0 + s * 1) = 1
      rw [← h1']
      grind
    · rw [h2]
      exact actF_mul f p q r s 0 (-1) 1 n
def ringP (D : Int) (f : Fm) (k : Nat) : List (List Int × List Int) := (List.range k).map fun i => (fL (rhoN D i f), mL (mN D f i))
def ringF (D : Int) (f : Fm) (k : Nat) : List (List Int) := (List.range k).map fun i => fL (rhoN D i f)
theorem ringP_cons (D : Int) (f : Fm) (k : Nat) : ringP D f (k + 1) = (fL f, mL (1, 0, 0, 1)) :: (List.range k).map fun i => (fL (rhoN D (i + 1) f), mL (mN D f (i + 1))) := by
  unfold ringP
  rw [List.range_succ_eq_map, List.map_cons, List.map_map]
  rfl
theorem ringF_cons (D : Int) (f : Fm) (k : Nat) : ringF D f (k + 1) = fL f :: (List.range k).map fun i => fL (rhoN D (i + 1) f) := by
  unfold ringF
  rw [List.range_succ_eq_map, List.map_cons, List.map_map]
  rfl
theorem ringP_snoc (D : Int) (f : Fm) (k : Nat) : ringP D f (k + 1) = ringP D f k ++ [(fL (rhoN D k f), mL (mN D f k))] := by
  unfold ringP
  rw [List.range_succ, List.map_append]
  rfl
theorem ringF_snoc (D : Int) (f : Fm) (k : Nat) : ringF D f (k + 1) = ringF D f k ++ [fL (rhoN D k f)] := by
  unfold ringF
  rw [List.range_succ, List.map_append]
  rfl
theorem ringP_fst (D : Int) (f : Fm) (k : Nat) : (ringP D f k).map (·.1) = ringF D f k := by
  unfold ringP ringF
  rw [List.map_map]
  rfl
theorem ringP_len (D : Int) (f : Fm) (k : Nat) : (ringP D f k).length = k := by
  unfold ringP
  rw [List.length_map, List.length_range]
theorem ringF_len (D : Int) (f : Fm) (k : Nat) : (ringF D f k).length = k := by
  unfold ringF
  rw [List.length_map, List.length_range]
theorem ringP_at {D : Int} {f : Fm} {k i : Nat} {p : List Int × List Int} (h : (ringP D f k)[i]? = some p) : i < k ∧ p = (fL (rhoN D i f), mL (mN D f i)) := by
  unfold ringP at h
  rw [List.getElem?_map] at h
  by_cases z : i < k
  · rw [List.getElem?_range z] at h
    exact ⟨z, (Option.some.inj h).symm⟩
  · rw [List.getElem?_eq_none (by rw [List.length_range]; omega)] at h
    cases h
theorem ringF_at {D : Int} {f : Fm} {k i : Nat} {p : List Int} (h : (ringF D f k)[i]? = some p) : p = fL (rhoN D i f) := by
  unfold ringF at h
  rw [List.getElem?_map] at h
  by_cases z : i < k
  · rw [List.getElem?_range z] at h
    exact (Option.some.inj h).symm
  · rw [List.getElem?_eq_none (by rw [List.length_range]; omega)] at h
    cases h
/-! a box for the cycles of discriminants up to 3,200 -/
def boxD (D : Int) : List Fm := (List.range 28).flatMap fun (k : Nat) => (List.range (2 * k + 2)).flatMap fun (j : Nat) =>
  [((rootI D - (2 * (k : Int) + 2 - D % 2)) / 2 + 1 + (j : Int), 2 * (k : Int) + 2 - D % 2, ((2 * (k : Int) + 2 - D % 2) * (2 * (k : Int) + 2 - D % 2) - D) / (4 * ((rootI D - (2 * (k : Int) + 2 - D % 2)) / 2 + 1 + (j : Int)))),
   (-((rootI D - (2 * (k : Int) + 2 - D % 2)) / 2 + 1 + (j : Int)), 2 * (k : Int) + 2 - D % 2, ((2 * (k : Int) + 2 - D % 2) * (2 * (k : Int) + 2 - D % 2) - D) / (4 * -((rootI D - (2 * (k : Int) + 2 - D % 2)) / 2 + 1 + (j : Int))))]
theorem boxD_len (D : Int) : (boxD D).length = 1624 := by
  unfold boxD
  simp only [List.length_flatMap, List.length_cons, List.length_nil]
  decide +kernel
theorem boxD_mem {D : Int} {f : Fm} (F : IFf D f) (R : RDf D f) (hD : D ≤ 3200) : f ∈ boxD D := by
  obtain ⟨a, b, c⟩ := f
  have F' : IF D a b c := F
  obtain ⟨q1, q2, q3, q4⟩ := (show RedI D a b from R)
  obtain ⟨r0, _, r2, r3⟩ := F'.root
  have e := F'.cc
  have a0 := F'.a0
  have r56 : rootI D ≤ 56 := by
    by_cases z : rootI D ≤ 56
    · exact z
    · have := Int.mul_le_mul (show 57 ≤ rootI D by omega) (show 57 ≤ rootI D by omega) (by omega) (by omega)
      omega
  have par : D % 2 = b % 2 := by
    have e2 : b * b = (b / 2) * (b / 2) * 4 + 4 * (b / 2) * (b % 2) + (b % 2) * (b % 2) := by
      have h := Int.mul_ediv_add_emod b 2
      generalize b / 2 = x at *
      generalize b % 2 = y at *
      rw [← h]
      grind
    have h2 : (b % 2) * (b % 2) = b % 2 := by
      rcases Int.emod_two_eq b with h | h <;> rw [h] <;> rfl
    rw [h2, Int.mul_assoc 4] at e2
    generalize (b / 2) * (b / 2) = x at *
    generalize (b / 2) * (b % 2) = y at *
    generalize a * c = w at *
    omega
  have hb : 2 * ((((b + D % 2 - 2) / 2).toNat : Nat) : Int) + 2 - D % 2 = b := by omega
  have hc : ∀ a' : Int, a' = a → (b * b - D) / (4 * a') = c := by
    rintro a' rfl
    rw [← e, ← Int.mul_assoc]
    exact Int.mul_ediv_cancel_left _ (by omega)
  refine List.mem_flatMap.mpr ⟨((b + D % 2 - 2) / 2).toNat, List.mem_range.mpr (by omega), List.mem_flatMap.mpr ⟨((a.natAbs : Int) - (rootI D - b) / 2 - 1).toNat, List.mem_range.mpr (by omega), ?_⟩⟩
  rw [hb]
  have ha : (rootI D - b) / 2 + 1 + ((((a.natAbs : Int) - (rootI D - b) / 2 - 1).toNat : Nat) : Int) = (a.natAbs : Int) := by omega
  rw [ha]
  rcases Int.lt_or_le 0 a with z | z
  · rw [show (a.natAbs : Int) = a by omega, hc a rfl]
    exact List.mem_cons_self
  · rw [show -(a.natAbs : Int) = a by omega, hc a rfl]
    exact List.mem_cons_of_mem _ List.mem_cons_self
theorem ring_ok {D : Int} {f : Fm} (F : IFf D f) (R : RDf D f) (hD : D ≤ 3200) : ∃ k, Cyc D f (k + 1) ∧ k + 1 ≤ 1624 := by
  obtain ⟨n, hn, hl⟩ := cyc_of F R (box := boxD D) fun i => boxD_mem (rhoN_ok i F R).1 (rhoN_ok i F R).2 hD
  rw [boxD_len] at hl
  obtain ⟨k, rfl⟩ : ∃ k, n = k + 1 := ⟨n - 1, by have := hn.n0; omega⟩
  exact ⟨k, hn, hl⟩
theorem Cyc.mod {D : Int} {f : Fm} {n : Nat} (h : Cyc D f n) (i : Nat) : rhoN D (i % n) f = rhoN D i f := by
  conv => rhs; rw [← Nat.div_add_mod i n, rhoN_add, rhoN_mul h.back]
theorem ringF_mem {D : Int} {f : Fm} {n : Nat} (h : Cyc D f n) {z : List Int} : z ∈ ringF D f n ↔ ∃ i, z = fL (rhoN D i f) := by
  unfold ringF
  rw [List.mem_map]
  constructor
  · rintro ⟨i, _, rfl⟩
    exact ⟨i, rfl⟩
  · rintro ⟨i, rfl⟩
    exact ⟨i % n, List.mem_range.mpr (Nat.mod_lt _ h.n0), by rw [h.mod]⟩
/-- the least form of a cycle -/
def leastT (D : Int) (f : Fm) (k : Nat) : PySem.W.Tup Int := PySem.W.minOf (PySem.W.Tup.mk (fL f)) (((List.range k).map fun i => fL (rhoN D (i + 1) f)).map PySem.W.Tup.mk)
theorem least_cycle {D : Int} {f g : Fm} {k l m : Nat} (hf : Cyc D f (k + 1)) (hg : Cyc D g (l + 1)) (e : rhoN D m f = g) : leastT D f k = leastT D g l := by
  have hm : ∀ (f : Fm) (k : Nat), Cyc D f (k + 1) → ∀ z, z ∈ (PySem.W.Tup.mk (fL f) :: ((List.range k).map fun i => fL (rhoN D (i + 1) f)).map PySem.W.Tup.mk) ↔ ∃ i, z = PySem.W.Tup.mk (fL (rhoN D i f)) := by
    intro f k h z
    rw [← List.map_cons, ← ringF_cons, List.mem_map]
    constructor
    · rintro ⟨x, hx, rfl⟩
      obtain ⟨i, rfl⟩ := (ringF_mem h).mp hx
      exact ⟨i, rfl⟩
    · rintro ⟨i, rfl⟩
      exact ⟨_, (ringF_mem h).mpr ⟨i, rfl⟩, rfl⟩
  obtain ⟨m2, e2⟩ := rhoN_back hf.n0 hf.back e
  refine min_alike (fun z hz => ?_) (fun z hz => ?_)
  · obtain ⟨i, rfl⟩ := (hm f k hf z).mp hz
    exact (hm g l hg _).mpr ⟨m2 + i, by rw [rhoN_add, e2]⟩
  · obtain ⟨i, rfl⟩ := (hm g l hg z).mp hz
    exact (hm f k hf _).mpr ⟨m + i, by rw [rhoN_add, e]⟩
/-- forms of one class have one least form -/
theorem least_class {D : Int} {f g : Fm} {k l : Nat} {p q r s : Int} (hD : D ≤ 3200) (F : IFf D f) (G : IFf D g) (Rf : RDf D f) (Rg : RDf D g) (hf : Cyc D f (k + 1)) (hg : Cyc D g (l + 1)) (hd : p * s - q * r = 1) (e : g = actF f p q r s) : leastT D f k = leastT D g l := by
  obtain ⟨m, hm⟩ := class_cycle (fun x hx rx => by
    obtain ⟨k, h, _⟩ := ring_ok hx rx hD
    exact ⟨k + 1, h.n0, h.back⟩) F G Rf Rg hd e
  exact least_cycle hf hg hm

/-- the least form of the cycle that f leads to -/
abbrev CanF (D : Int) (f h : Fm) : Prop := ∃ (g : Fm) (k : Nat) (w : M4), IFf D g ∧ RDf D g ∧ detM w = 1 ∧ g = actM f w ∧ Cyc D g (k + 1) ∧ PySem.W.Tup.mk (fL h) = leastT D g k
/-- what canonical gives -/
structure CanI (D : Int) (f h : Fm) (m : M4) : Prop where
  det : detM m = 1
  act : h = actM f m
  bd : BdM 36901 m
  from_ : CanF D f h
theorem canF_uniq {D : Int} {f f' h h' : Fm} {n : M4} (hD : D ≤ 3200) (C : CanF D f h) (C' : CanF D f' h') (hn : detM n = 1) (e : f' = actM f n) : h' = h := by
  obtain ⟨g, k, w, G, Rg, dw, eg, cy, hl⟩ := C
  obtain ⟨g', k', w', G', Rg', dw', eg', cy', hl'⟩ := C'
  obtain ⟨w1, w2, w3, w4⟩ := w
  obtain ⟨n1, n2, n3, n4⟩ := n
  obtain ⟨v1, v2, v3, v4⟩ := w'
  have dw : w1 * w4 - w2 * w3 = 1 := dw
  have hn : n1 * n4 - n2 * n3 = 1 := hn
  have dw' : v1 * v4 - v2 * v3 = 1 := dw'
  have eg : g = actF f w1 w2 w3 w4 := eg
  have e : f' = actF f n1 n2 n3 n4 := e
  have eg' : g' = actF f' v1 v2 v3 v4 := eg'
  have ef : f = actF g w4 (-w2) (-w3) w1 := by rw [eg, actF_inv f dw]
  rw [e, ef, actF_mul, actF_mul] at eg'
  have e5 := least_class hD G G' Rg Rg' cy cy' (by
    have e6 : ∀ x1 x2 x3 x4 y1 y2 y3 y4 : Int, (x1 * y1 + x2 * y3) * (x3 * y2 + x4 * y4) - (x1 * y2 + x2 * y4) * (x3 * y1 + x4 * y3) = (x1 * x4 - x2 * x3) * (y1 * y4 - y2 * y3) := by
      intros
      grind
    rw [e6, e6, hn, dw']
    have : w4 * w1 - -w2 * -w3 = 1 := by rw [← dw]; grind
    rw [this]
    rfl) eg'
  rw [← hl, ← hl'] at e5
  injection e5 with e5
  exact (fL_inj e5).symm
section
variable {P : Program} {w : World} {K : PySem.W.Frag} {mg : Str → Option Value} {base : Heap} {fa : Nat → Addr} {fd : Nat → FuncData}
set_option hygiene false
local macro_rules | `(tactic| clean_wf) => `(tactic| (repeat' (first   | with_reducible apply R.var   | with_reducible apply R.gsE   | ((with_reducible apply R.gsN); (focus exact rfl))   | with_reducible apply R.lenS   | ((with_reducible apply R.lenB); exact rfl)   | ((with_reducible apply R.isEq); exact rfl)   | with_reducible apply R.op   | with_reducible apply R.i2   | with_reducible apply R.i0   | with_reducible apply R.con   | with_reducible apply R.cons   | with_reducible apply R.nil   | with_reducible apply R.gcons   | with_reducible apply R.gname   | ((with_reducible apply R.ixT); (focus ((repeat' (first | with_reducible assumption | with_reducible apply hU | ((with_reducible apply SqT.of); with_reducible assumption) | ((with_reducible apply same_seqT); with_reducible assumption) | ((with_reducible apply kp_seqT); with_reducible assumption) | ((with_reducible apply Dw.same); with_reducible assumption))); done)); exact rfl)   | ((with_reducible apply R.ixL); (focus ((repeat' (first | with_reducible assumption | ((with_reducible apply SqL.of); with_reducible assumption) | ((with_reducible apply Same.seq); with_reducible assumption) | ((with_reducible apply Kp.seqL); with_reducible assumption) | ((with_reducible apply fresh_ne); with_reducible assumption) | ((with_reducible apply Dw.same); with_reducible assumption))); done)); exact rfl)   | with_reducible assumption   | with_reducible apply Bd.mulW   | with_reducible apply Bd.mul   | with_reducible apply Bd.add   | with_reducible apply Bd.sub   | ((with_reducible apply Bd.l8); exact eq_true (by decide))   | ((with_reducible apply Bd.lit); exact eq_true (by decide))   | with_reducible apply Bd.neg   | with_reducible apply Bd.div   | with_reducible apply Bd.abs   | with_reducible apply Bd.mod   | with_reducible apply Bd.fdiv   | ((with_reducible apply Bd.om); omega)   | ((with_reducible apply R.isLe); first | decide | omega)   | with_reducible apply R.un   | with_reducible apply R.u1   | with_reducible apply R.tup   | with_reducible apply R.lst   | with_reducible apply R.call   | with_reducible apply R.callB   | with_reducible apply R.gtup   | with_reducible apply R.gnil   | with_reducible apply R.seq   | with_reducible apply R.asg   | with_reducible apply R.ret   | with_reducible apply R.brk   | with_reducible apply R.cont   | with_reducible apply R.next   | with_reducible apply R.drop   | with_reducible apply R.par   | with_reducible apply R.par2   | with_reducible apply R.ifs   | with_reducible apply R.tif   | with_reducible apply R.test   | with_reducible apply R.tb'   | with_reducible apply R.isbl   | with_reducible apply R.cmp   | with_reducible apply R.t2i   | with_reducible apply R.intp   | with_reducible apply R.and   | with_reducible apply R.or   | with_reducible apply R.not   | with_reducible apply R.andV   | with_reducible apply R.orV   | with_reducible apply R.notV   | with_reducible apply R.chain   | with_reducible apply R.tupL   | with_reducible apply R.lstL   | with_reducible apply R.cat   | with_reducible apply R.absI   | with_reducible apply R.intI   | with_reducible apply R.intB   | with_reducible apply R.eqS   | with_reducible apply R.eqBl   | with_reducible apply R.neBl   | with_reducible apply R.sl   | with_reducible apply R.noPart   | with_reducible apply R.part   | with_reducible apply R.isInt   | with_reducible apply R.slL   | with_reducible apply R.isiT   | with_reducible apply R.isiLst   | with_reducible apply R.nwT   | with_reducible apply R.nwL   | ((with_reducible apply R.mt); intro HN tn sn nn ht)   | ((with_reducible apply R.ml); intro HN tn sn nn ht)   | ((with_reducible apply R.isiTupS); focus ((repeat' (first | with_reducible assumption | with_reducible apply hU | ((with_reducible apply SqT.of); with_reducible assumption) | ((with_reducible apply same_seqT); with_reducible assumption) | ((with_reducible apply kp_seqT); with_reducible assumption) | ((with_reducible apply Dw.same); with_reducible assumption))); done))   | ((with_reducible apply R.ne4); focus ((repeat' (first | with_reducible assumption | with_reducible apply hU | ((with_reducible apply SqT.of); with_reducible assumption) | ((with_reducible apply same_seqT); with_reducible assumption) | ((with_reducible apply kp_seqT); with_reducible assumption) | ((with_reducible apply Dw.same); with_reducible assumption))); done))   | ((with_reducible apply R.ne3); focus ((repeat' (first | with_reducible assumption | with_reducible apply hU | ((with_reducible apply SqT.of); with_reducible assumption) | ((with_reducible apply same_seqT); with_reducible assumption) | ((with_reducible apply kp_seqT); with_reducible assumption) | ((with_reducible apply Dw.same); with_reducible assumption))); done))   | ((with_reducible apply R.ne2); focus ((repeat' (first | with_reducible assumption | with_reducible apply hU | ((with_reducible apply SqT.of); with_reducible assumption) | ((with_reducible apply same_seqT); with_reducible assumption) | ((with_reducible apply kp_seqT); with_reducible assumption) | ((with_reducible apply Dw.same); with_reducible assumption))); done))   | ((with_reducible apply R.eq4); focus ((repeat' (first | with_reducible assumption | with_reducible apply hU | ((with_reducible apply SqT.of); with_reducible assumption) | ((with_reducible apply same_seqT); with_reducible assumption) | ((with_reducible apply kp_seqT); with_reducible assumption) | ((with_reducible apply Dw.same); with_reducible assumption))); done))   | ((with_reducible apply R.eq3); focus ((repeat' (first | with_reducible assumption | with_reducible apply hU | ((with_reducible apply SqT.of); with_reducible assumption) | ((with_reducible apply same_seqT); with_reducible assumption) | ((with_reducible apply kp_seqT); with_reducible assumption) | ((with_reducible apply Dw.same); with_reducible assumption))); done))   | ((with_reducible apply R.eq2); focus ((repeat' (first | with_reducible assumption | with_reducible apply hU | ((with_reducible apply SqT.of); with_reducible assumption) | ((with_reducible apply same_seqT); with_reducible assumption) | ((with_reducible apply kp_seqT); with_reducible assumption) | ((with_reducible apply Dw.same); with_reducible assumption))); done))   | with_reducible apply uLawNext   | with_reducible apply uLawChange   | with_reducible apply uMultiply   | with_reducible apply uLawMul   | with_reducible apply uLawWorth   | with_reducible apply uWorth   | with_reducible apply uDiscriminant   | with_reducible apply uAct   | with_reducible apply uLawAct   | with_reducible apply uLawKind   | with_reducible apply uLawSquare   | with_reducible apply uLawRoot   | with_reducible apply uFloorRoot   | with_reducible apply uIsReduced   | with_reducible apply uStepOf   | with_reducible apply uStepNear   | with_reducible apply uLawNeighbour   | with_reducible apply uCycle   | with_reducible apply uLawRing   | ((with_reducible apply R.nw); intro HN tn sn ht)   | with_reducible apply iteT   | with_reducible apply iteF   | with_reducible apply R.notT   | with_reducible apply R.notF   | ((with_reducible apply SqT.of); with_reducible assumption)   | ((with_reducible apply SqL.of); with_reducible assumption)   | ((with_reducible apply same_seqT); with_reducible assumption)   | ((with_reducible apply sameB); with_reducible assumption)   | ((with_reducible apply same_at); with_reducible assumption)   | ((with_reducible apply kp_seqT); with_reducible assumption)   | ((with_reducible apply Same.seq); with_reducible assumption)   | ((with_reducible apply Kp.seqL); with_reducible assumption)   | ((with_reducible apply fresh_ne); with_reducible assumption)   | ((with_reducible apply Dw.same); with_reducible assumption)   | ((with_reducible apply R.isEq); exact eq_true (by first | decide | omega))   | ((with_reducible apply R.isLt); first | decide | omega)   | ((with_reducible apply R.isLtI); first | decide | omega)   | ((with_reducible apply R.isLeI); first | decide | omega)   | ((with_reducible apply R.cdiv); exact rfl)   | ((with_reducible apply R.cpow); exact rfl)   | with_reducible apply R.cdivX   | ((with_reducible apply R.isNe); omega)   | with_reducible apply hU   | ((with_reducible apply wayNF); first | exact rfl | exact ⟨rfl, rfl⟩ | exact ⟨rfl, rfl, rfl⟩ | exact ⟨rfl, rfl, rfl, rfl⟩)   | with_reducible apply R.bm   | ((with_reducible apply R.bmT); (focus ((first | with_reducible assumption | ((with_reducible apply same_at); with_reducible assumption) | ((with_reducible apply kp_at); with_reducible assumption)); done)))   | with_reducible apply R.dput   | with_reducible apply R.dget   | with_reducible apply R.din   | with_reducible apply R.dget2   | with_reducible apply R.forE   | with_reducible apply R.rng1   | with_reducible apply R.rng2   | with_reducible apply R.rg1   | with_reducible apply R.rg2   | with_reducible apply R.lcE   | with_reducible apply R.itup   | with_reducible apply R.ilst   )))
local macro_rules | `(tactic| sizeOf_list_dec) => `(tactic| (repeat' (first | with_reducible exact Kp.refl | with_reducible assumption | ((with_reducible apply kpB); first | with_reducible assumption | ((with_reducible apply same_kp); with_reducible assumption)))))
local macro_rules | `(tactic| array_get_dec) => `(tactic| (repeat' (first | with_reducible assumption | ((with_reducible apply SqL.of); with_reducible assumption) | ((with_reducible apply Same.seq); with_reducible assumption) | ((with_reducible apply Kp.seqL); with_reducible assumption) | ((with_reducible apply fresh_ne); with_reducible assumption) | ((with_reducible apply Dw.same); with_reducible assumption))))
local macro_rules | `(tactic| simp_wf) => `(tactic| (repeat' (first | with_reducible assumption | with_reducible apply hU | ((with_reducible apply SqT.of); with_reducible assumption) | ((with_reducible apply same_seqT); with_reducible assumption) | ((with_reducible apply kp_seqT); with_reducible assumption) | ((with_reducible apply Dw.same); with_reducible assumption))))
local macro_rules | `(tactic| array_mem_dec) => `(tactic| (repeat' (first | with_reducible exact Same.refl _ | with_reducible assumption | ((with_reducible apply sameB); with_reducible assumption))))
set_option hygiene true
def spFloorRoot (_ : PySem.W.Frag) : Sp := fun vs H Q _ => ∃ n : Int, vs = [.int n] ∧ 0 ≤ n ∧ n.natAbs < 2 ^ 13000 ∧ Q (.int (rootI n)) H
theorem uFloorRoot {K : PySem.W.Frag} {H : Hp} {Q : VK} {E : XK} {vs : List V} {n : Int} (e : vs = [.int n]) (h0 : 0 ≤ n) (h1 : n < 1000000000000000000) (kk : Q (.int (rootI n)) H) : spFloorRoot K vs H Q E :=
  ⟨n, e, h0, pow_up (a := 60) (by show n.natAbs < 1152921504606846976; omega) (by decide), kk⟩
theorem okFloorRoot (T : Txt K mg fa fd) : FnOk P w K mg base CX0 1 (fa 0) (fd 0) ["n"] (spFloorRoot K) := by
  refine T.F_floor_root.ok scFloorRoot (fun vs H Q E h => ?_) (fun cdv A outer s H vs Q E hr h => ?_)
  · obtain ⟨n, rfl, h0, h1, q⟩ := h
    rfl
  · obtain ⟨n, rfl, h0, h1, q⟩ := h
    refine ⟨_, (pss_one (ps_ret (pe_callBfun cr_isqrt (by rfl) T.g_isqrt (pa_cons (pv 0) pa_nil)))), ?_⟩
    exact ⟨_, rfl, _, rfl, h0, h1, q⟩
def spDiscriminant (K : PySem.W.Frag) : Sp := fun vs H Q _ => ∃ (aform : Addr) (a b c : Int) (N : Nat), vs = [.ref aform] ∧ SqT K H aform [.int a, .int b, .int c] ∧ Bd N a ∧ Bd N b ∧ Bd N c ∧ N ≤ 400000 ∧ (Q (.int (b * b - 4 * a * c)) H)
theorem uDiscriminant {K : PySem.W.Frag} {H : Hp} {Q : VK} {E : XK} {vs : List V} {aform : Addr} {a b c : Int} {n0 n1 n2 : Nat} (hev : vs = [.ref aform]) (s0 : SqT K H aform [.int a, .int b, .int c]) (b0 : Bd n0 a) (b1 : Bd n1 b) (b2 : Bd n2 c) (hll : (n0 + n1 + n2 ≤ 400000) = True) (kk : Q (.int (b * b - 4 * a * c)) H) : spDiscriminant K vs H Q E :=
  have hll := of_eq_true hll
  ⟨aform, a, b, c, n0 + n1 + n2, hev, s0, b0.mono (by omega), b1.mono (by omega), b2.mono (by omega), hll, kk⟩
theorem okDiscriminant (T : Txt K mg fa fd) : FnOk P w K mg base CX0 1 (fa 1) (fd 1) ["form"] (spDiscriminant K) := by
  refine T.F_discriminant.ok scDiscriminant (fun vs H Q E h => ?_) (fun cdv A outer s H vs Q E hr h => ?_)
  · obtain ⟨aform, a, b, c, N, rfl, h_aform, b_a, b_b, b_c, hN, kk⟩ := h
    rfl
  · obtain ⟨aform, a, b, c, N, rfl, h_aform, b_a, b_b, b_c, hN, kk⟩ := h
    refine ⟨_, (pss_cons (ps_asg (pv 0) (pgT K 3 (by rfl) (pgs_cons (pg_name (i := 1) scDiscriminant.nd rfl (Or.inl rfl)) (pgs_cons (pg_name (i := 2) scDiscriminant.nd rfl (Or.inl rfl)) (pgs_cons (pg_name (i := 3) scDiscriminant.nd rfl (Or.inl rfl)) pgs_nil)))))
      (pss_one (ps_ret (pe_op op_sub (pe_op op_mulW (pv 2) (pv 2)) (pe_op op_mulW (pe_op op_mulW pe_int (pv 1)) (pv 3)))))), ?_⟩
    clean_wf
    all_goals first | omega | exact kk | (refine kk _ _ ?_ (by assumption); (repeat' (first | with_reducible exact Same.refl _ | with_reducible assumption | ((with_reducible apply sameB); with_reducible assumption))))
def spWorth (K : PySem.W.Frag) : Sp := fun vs H Q _ => ∃ (aform apoint : Addr) (a b c x y : Int) (N : Nat), vs = [.ref aform, .ref apoint] ∧ SqT K H aform [.int a, .int b, .int c] ∧ SqT K H apoint [.int x, .int y] ∧ Bd N a ∧ Bd N b ∧ Bd N c ∧ Bd N x ∧ Bd N y ∧ N ≤ 300000 ∧ (Q (.int (a * x * x + b * x * y + c * y * y)) H)
theorem uWorth {K : PySem.W.Frag} {H : Hp} {Q : VK} {E : XK} {vs : List V} {aform apoint : Addr} {a b c x y : Int} {n0 n1 n2 n3 n4 : Nat} (hev : vs = [.ref aform, .ref apoint]) (s0 : SqT K H aform [.int a, .int b, .int c]) (s1 : SqT K H apoint [.int x, .int y]) (b0 : Bd n0 a) (b1 : Bd n1 b) (b2 : Bd n2 c) (b3 : Bd n3 x) (b4 : Bd n4 y) (hll : (n0 + n1 + n2 + n3 + n4 ≤ 300000) = True) (kk : Q (.int (a * x * x + b * x * y + c * y * y)) H) : spWorth K vs H Q E :=
  have hll := of_eq_true hll
  ⟨aform, apoint, a, b, c, x, y, n0 + n1 + n2 + n3 + n4, hev, s0, s1, b0.mono (by omega), b1.mono (by omega), b2.mono (by omega), b3.mono (by omega), b4.mono (by omega), hll, kk⟩
theorem okWorth (T : Txt K mg fa fd) : FnOk P w K mg base CX0 1 (fa 2) (fd 2) ["form", "point"] (spWorth K) := by
  refine T.F_worth.ok scWorth (fun vs H Q E h => ?_) (fun cdv A outer s H vs Q E hr h => ?_)
  · obtain ⟨aform, apoint, a, b, c, x, y, N, rfl, h_aform, h_apoint, b_a, b_b, b_c, b_x, b_y, hN, kk⟩ := h
    rfl
  · obtain ⟨aform, apoint, a, b, c, x, y, N, rfl, h_aform, h_apoint, b_a, b_b, b_c, b_x, b_y, hN, kk⟩ := h
    refine ⟨_, (pss_cons (ps_asg (pv 0) (pgT K 3 (by rfl) (pgs_cons (pg_name (i := 2) scWorth.nd rfl (Or.inl rfl)) (pgs_cons (pg_name (i := 3) scWorth.nd rfl (Or.inl rfl)) (pgs_cons (pg_name (i := 4) scWorth.nd rfl (Or.inl rfl)) pgs_nil)))))
      (pss_cons (ps_asg (pv 1) (pgT K 2 (by rfl) (pgs_cons (pg_name (i := 5) scWorth.nd rfl (Or.inl rfl)) (pgs_cons (pg_name (i := 6) scWorth.nd rfl (Or.inl rfl)) pgs_nil))))
      (pss_one (ps_ret (pe_op op_add (pe_op op_add (pe_op op_mulW (pe_op op_mulW (pv 2) (pv 5)) (pv 5)) (pe_op op_mulW (pe_op op_mulW (pv 3) (pv 5)) (pv 6))) (pe_op op_mulW (pe_op op_mulW (pv 4) (pv 6)) (pv 6))))))), ?_⟩
    clean_wf
    all_goals first | omega | exact kk | (refine kk _ _ ?_ (by assumption); (repeat' (first | with_reducible exact Same.refl _ | with_reducible assumption | ((with_reducible apply sameB); with_reducible assumption))))
def spAct (K : PySem.W.Frag) : Sp := fun vs H Q _ => ∃ (aform am : Addr) (a b c p q r s : Int) (N : Nat), vs = [.ref aform, .ref am] ∧ SqT K H aform [.int a, .int b, .int c] ∧ SqT K H am [.int p, .int q, .int r, .int s] ∧ Bd N a ∧ Bd N b ∧ Bd N c ∧ Bd N p ∧ Bd N q ∧ Bd N r ∧ Bd N s ∧ N ≤ 40000 ∧ (R.Nw H [.int (a * p * p + b * p * r + c * r * r), .int (2 * a * p * q + b * (p * s + q * r) + 2 * c * r * s), .int (a * q * q + b * q * s + c * s * s)] Q)
theorem uAct {K : PySem.W.Frag} {H : Hp} {Q : VK} {E : XK} {vs : List V} {aform am : Addr} {a b c p q r s : Int} {n0 n1 n2 n3 n4 n5 n6 : Nat} (hev : vs = [.ref aform, .ref am]) (s0 : SqT K H aform [.int a, .int b, .int c]) (s1 : SqT K H am [.int p, .int q, .int r, .int s]) (b0 : Bd n0 a) (b1 : Bd n1 b) (b2 : Bd n2 c) (b3 : Bd n3 p) (b4 : Bd n4 q) (b5 : Bd n5 r) (b6 : Bd n6 s) (hll : (n0 + n1 + n2 + n3 + n4 + n5 + n6 ≤ 40000) = True) (kk : R.Nw H [.int (a * p * p + b * p * r + c * r * r), .int (2 * a * p * q + b * (p * s + q * r) + 2 * c * r * s), .int (a * q * q + b * q * s + c * s * s)] Q) : spAct K vs H Q E :=
  have hll := of_eq_true hll
  ⟨aform, am, a, b, c, p, q, r, s, n0 + n1 + n2 + n3 + n4 + n5 + n6, hev, s0, s1, b0.mono (by omega), b1.mono (by omega), b2.mono (by omega), b3.mono (by omega), b4.mono (by omega), b5.mono (by omega), b6.mono (by omega), hll, kk⟩
theorem okAct (T : Txt K mg fa fd) : FnOk P w K mg base CX0 2 (fa 3) (fd 3) ["form", "m"] (spAct K) := by
  refine T.F_act.ok scAct (fun vs H Q E h => ?_) (fun cdv A outer s H vs Q E hr h => ?_)
  · obtain ⟨aform, am, a, b, c, p, q, r, s, N, rfl, h_aform, h_am, b_a, b_b, b_c, b_p, b_q, b_r, b_s, hN, kk⟩ := h
    rfl
  · obtain ⟨aform, am, a, b, c, p, q, r, s, N, rfl, h_aform, h_am, b_a, b_b, b_c, b_p, b_q, b_r, b_s, hN, kk⟩ := h
    refine ⟨_, (pss_cons (ps_asg (pv 0) (pgT K 3 (by rfl) (pgs_cons (pg_name (i := 2) scAct.nd rfl (Or.inl rfl)) (pgs_cons (pg_name (i := 3) scAct.nd rfl (Or.inl rfl)) (pgs_cons (pg_name (i := 4) scAct.nd rfl (Or.inl rfl)) pgs_nil)))))
      (pss_cons (ps_asg (pv 1) (pgT K 4 (by rfl) (pgs_cons (pg_name (i := 5) scAct.nd rfl (Or.inl rfl)) (pgs_cons (pg_name (i := 6) scAct.nd rfl (Or.inl rfl)) (pgs_cons (pg_name (i := 7) scAct.nd rfl (Or.inl rfl)) (pgs_cons (pg_name (i := 8) scAct.nd rfl (Or.inl rfl)) pgs_nil))))))
      (pss_cons (ps_set (i := 9) scAct.nd rfl (Or.inl rfl) (pe_op op_add (pe_op op_add (pe_op op_mulW (pe_op op_mulW (pe_op op_mulW pe_int (pv 2)) (pv 5)) (pv 6)) (pe_op op_mulW (pv 3) (pe_op op_add (pe_op op_mulW (pv 5) (pv 8)) (pe_op op_mulW (pv 6) (pv 7))))) (pe_op op_mulW (pe_op op_mulW (pe_op op_mulW pe_int (pv 4)) (pv 7)) (pv 8))))
      (pss_one (ps_ret (pe_tup (pa_cons (pe_call (sp := spWorth K) (okWorth T) hr (by rfl) T.G_worth T.F_worth.kp T.B_worth .nil pass0 (pa_cons (pv 0) (pa_cons (pe_tup (pa_cons (pv 5) (pa_cons (pv 7) pa_nil))) pa_nil))) (pa_cons (pv 9) (pa_cons (pe_call (sp := spWorth K) (okWorth T) hr (by rfl) T.G_worth T.F_worth.kp T.B_worth .nil pass0 (pa_cons (pv 0) (pa_cons (pe_tup (pa_cons (pv 6) (pa_cons (pv 8) pa_nil))) pa_nil))) pa_nil))))))))), ?_⟩
    clean_wf
    all_goals first | omega | exact kk | (refine kk _ _ ?_ (by assumption); (repeat' (first | with_reducible exact Same.refl _ | with_reducible assumption | ((with_reducible apply sameB); with_reducible assumption))))
def spMultiply (K : PySem.W.Frag) : Sp := fun vs H Q _ => ∃ (am an : Addr) (p q r s p2 q2 r2 s2 : Int) (N : Nat), vs = [.ref am, .ref an] ∧ SqT K H am [.int p, .int q, .int r, .int s] ∧ SqT K H an [.int p2, .int q2, .int r2, .int s2] ∧ Bd N p ∧ Bd N q ∧ Bd N r ∧ Bd N s ∧ Bd N p2 ∧ Bd N q2 ∧ Bd N r2 ∧ Bd N s2 ∧ N ≤ 400000 ∧ (R.Nw H [.int (p * p2 + q * r2), .int (p * q2 + q * s2), .int (r * p2 + s * r2), .int (r * q2 + s * s2)] Q)
theorem uMultiply {K : PySem.W.Frag} {H : Hp} {Q : VK} {E : XK} {vs : List V} {am an : Addr} {p q r s p2 q2 r2 s2 : Int} {n0 n1 n2 n3 n4 n5 n6 n7 : Nat} (hev : vs = [.ref am, .ref an]) (s0 : SqT K H am [.int p, .int q, .int r, .int s]) (s1 : SqT K H an [.int p2, .int q2, .int r2, .int s2]) (b0 : Bd n0 p) (b1 : Bd n1 q) (b2 : Bd n2 r) (b3 : Bd n3 s) (b4 : Bd n4 p2) (b5 : Bd n5 q2) (b6 : Bd n6 r2) (b7 : Bd n7 s2) (hll : (n0 + n1 + n2 + n3 + n4 + n5 + n6 + n7 ≤ 400000) = True) (kk : R.Nw H [.int (p * p2 + q * r2), .int (p * q2 + q * s2), .int (r * p2 + s * r2), .int (r * q2 + s * s2)] Q) : spMultiply K vs H Q E :=
  have hll := of_eq_true hll
  ⟨am, an, p, q, r, s, p2, q2, r2, s2, n0 + n1 + n2 + n3 + n4 + n5 + n6 + n7, hev, s0, s1, b0.mono (by omega), b1.mono (by omega), b2.mono (by omega), b3.mono (by omega), b4.mono (by omega), b5.mono (by omega), b6.mono (by omega), b7.mono (by omega), hll, kk⟩
theorem okMultiply (T : Txt K mg fa fd) : FnOk P w K mg base CX0 1 (fa 4) (fd 4) ["m", "n"] (spMultiply K) := by
  refine T.F_multiply.ok scMultiply (fun vs H Q E h => ?_) (fun cdv A outer s H vs Q E hr h => ?_)
  · obtain ⟨am, an, p, q, r, s, p2, q2, r2, s2, N, rfl, h_am, h_an, b_p, b_q, b_r, b_s, b_p2, b_q2, b_r2, b_s2, hN, kk⟩ := h
    rfl
  · obtain ⟨am, an, p, q, r, s, p2, q2, r2, s2, N, rfl, h_am, h_an, b_p, b_q, b_r, b_s, b_p2, b_q2, b_r2, b_s2, hN, kk⟩ := h
    refine ⟨_, (pss_cons (ps_asg (pv 0) (pgT K 4 (by rfl) (pgs_cons (pg_name (i := 2) scMultiply.nd rfl (Or.inl rfl)) (pgs_cons (pg_name (i := 3) scMultiply.nd rfl (Or.inl rfl)) (pgs_cons (pg_name (i := 4) scMultiply.nd rfl (Or.inl rfl)) (pgs_cons (pg_name (i := 5) scMultiply.nd rfl (Or.inl rfl)) pgs_nil))))))
      (pss_cons (ps_asg (pv 1) (pgT K 4 (by rfl) (pgs_cons (pg_name (i := 6) scMultiply.nd rfl (Or.inl rfl)) (pgs_cons (pg_name (i := 7) scMultiply.nd rfl (Or.inl rfl)) (pgs_cons (pg_name (i := 8) scMultiply.nd rfl (Or.inl rfl)) (pgs_cons (pg_name (i := 9) scMultiply.nd rfl (Or.inl rfl)) pgs_nil))))))
      (pss_one (ps_ret (pe_tup (pa_cons (pe_op op_add (pe_op op_mulW (pv 2) (pv 6)) (pe_op op_mulW (pv 3) (pv 8))) (pa_cons (pe_op op_add (pe_op op_mulW (pv 2) (pv 7)) (pe_op op_mulW (pv 3) (pv 9))) (pa_cons (pe_op op_add (pe_op op_mulW (pv 4) (pv 6)) (pe_op op_mulW (pv 5) (pv 8))) (pa_cons (pe_op op_add (pe_op op_mulW (pv 4) (pv 7)) (pe_op op_mulW (pv 5) (pv 9))) pa_nil))))))))), ?_⟩
    clean_wf
    all_goals first | omega | exact kk | (refine kk _ _ ?_ (by assumption); (repeat' (first | with_reducible exact Same.refl _ | with_reducible assumption | ((with_reducible apply sameB); with_reducible assumption))))
def spIsReduced (K : PySem.W.Frag) : Sp := fun vs H Q _ => ∃ (af : Addr) (a b c D : Int), vs = [.ref af] ∧ SqT K H af [.int a, .int b, .int c] ∧ IF D a b c ∧ Bd 60 a ∧ Bd 60 b ∧ Bd 60 c ∧ Q (.bl (decide (RedI D a b))) H
theorem uIsReduced {K : PySem.W.Frag} {H : Hp} {Q : VK} {E : XK} {vs : List V} {af : Addr} {a b c D : Int} (e : vs = [.ref af]) (hs : SqT K H af [.int a, .int b, .int c]) (F : IF D a b c) (b1 : Bd 60 a) (b2 : Bd 60 b) (b3 : Bd 60 c) (kk : Q (.bl (decide (RedI D a b))) H) : spIsReduced K vs H Q E := ⟨af, a, b, c, D, e, hs, F, b1, b2, b3, kk⟩
theorem okIsReduced (T : Txt K mg fa fd) : FnOk P w K mg base CX0 2 (fa 5) (fd 5) ["form"] (spIsReduced K) := by
  refine T.F_is_reduced.ok scIsReduced (fun vs H Q E h => ?_) (fun cdv A outer s H vs Q E hr h => ?_)
  · obtain ⟨af, a, b, c, D, rfl, hs, F, b1, b2, b3, kk⟩ := h
    rfl
  · obtain ⟨af, a, b, c, D, rfl, hs, F, b1, b2, b3, kk⟩ := h
    refine ⟨_, (pss_cons (ps_asg (pv 0) (pgT K 3 (by rfl) (pgs_cons (pg_name (i := 1) scIsReduced.nd rfl (Or.inl rfl)) (pgs_cons (pg_name (i := 2) scIsReduced.nd rfl (Or.inl rfl)) (pgs_cons (pg_name (i := 3) scIsReduced.nd rfl (Or.inl rfl)) pgs_nil)))))
      (pss_cons (ps_set (i := 4) scIsReduced.nd rfl (Or.inl rfl) (pe_call (sp := spFloorRoot K) (okFloorRoot T) hr (by rfl) T.G_floor_root T.F_floor_root.kp T.B_floor_root .nil pass0 (pa_cons (pe_call (sp := spDiscriminant K) (okDiscriminant T) hr (by rfl) T.G_discriminant T.F_discriminant.kp T.B_discriminant .nil pass0 (pa_cons (pv 0) pa_nil)) pa_nil)))
      (pss_one (ps_ret (pe_and (pe_chain op_lt op_le pe_int (pv 2) (pv 4)) (pe_one (pe_chain op_le op_lt (pe_op op_sub (pe_op op_mulW pe_int (pe_callB (absQ K) (by rfl) T.m_abs (by decide +kernel) (pa_cons (pv 1) pa_nil))) (pv 2)) (pv 4) (pe_op op_add (pe_op op_mulW pe_int (pe_callB (absQ K) (by rfl) T.m_abs (by decide +kernel) (pa_cons (pv 1) pa_nil))) (pv 2))))))))), ?_⟩
    have hd : b * b - 4 * a * c = D := F.d
    have d0 := F.d0
    have d1 := F.d1
    obtain ⟨r0, r1, _⟩ := F.root
    have br : Bd 60 (rootI D) := Bd.om (by omega)
    clean_wf
    rw [hd]
    clean_wf
    refine way2 (fun z1 => ?_) (fun z1 => ?_)
    rotate_left
    · rw [decide_eq_false (fun h => z1 h.1)] at kk
      clean_wf
    clean_wf
    refine way2 (fun z2 => ?_) (fun z2 => ?_)
    rotate_left
    · rw [decide_eq_false (fun h => z2 h.2.1)] at kk
      clean_wf
    clean_wf
    refine way2 (fun z3 => ?_) (fun z3 => ?_)
    rotate_left
    · rw [decide_eq_false (fun h => z3 h.2.2.1)] at kk
      clean_wf
    clean_wf
    have e : decide (RedI D a b) = decide (rootI D < 2 * (a.natAbs : Int) + b) := decide_eq_decide.mpr ⟨fun h => h.2.2.2, fun h => ⟨z1, z2, z3, h⟩⟩
    rw [e] at kk
    clean_wf
def spStepOf (K : PySem.W.Frag) : Sp := fun vs H Q _ => ∃ (af : Addr) (a b c D : Int), vs = [.ref af] ∧ SqT K H af [.int a, .int b, .int c] ∧ IF D a b c ∧ Bd 60 a ∧ Bd 60 b ∧ Bd 60 c ∧ R.Nw H [.int 0, .int (-1), .int 1, .int (nN D b c)] Q
theorem uStepOf {K : PySem.W.Frag} {H : Hp} {Q : VK} {E : XK} {vs : List V} {af : Addr} {a b c D : Int} (e : vs = [.ref af]) (hs : SqT K H af [.int a, .int b, .int c]) (F : IF D a b c) (b1 : Bd 60 a) (b2 : Bd 60 b) (b3 : Bd 60 c) (kk : R.Nw H [.int 0, .int (-1), .int 1, .int (nN D b c)] Q) : spStepOf K vs H Q E := ⟨af, a, b, c, D, e, hs, F, b1, b2, b3, kk⟩
theorem okStepOf (T : Txt K mg fa fd) : FnOk P w K mg base CX0 2 (fa 8) (fd 8) ["form"] (spStepOf K) := by
  refine T.F_step_of.ok scStepOf (fun vs H Q E h => ?_) (fun cdv A outer s H vs Q E hr h => ?_)
  · obtain ⟨af, a, b, c, D, rfl, hs, F, b1, b2, b3, kk⟩ := h
    rfl
  · obtain ⟨af, a, b, c, D, rfl, hs, F, b1, b2, b3, kk⟩ := h
    refine ⟨_, (pss_cons (ps_asg (pv 0) (pgT K 3 (by rfl) (pgs_cons (pg_name (i := 1) scStepOf.nd rfl (Or.inl rfl)) (pgs_cons (pg_name (i := 2) scStepOf.nd rfl (Or.inl rfl)) (pgs_cons (pg_name (i := 3) scStepOf.nd rfl (Or.inl rfl)) pgs_nil)))))
      (pss_cons (ps_set (i := 4) scStepOf.nd rfl (Or.inl rfl) (pe_call (sp := spFloorRoot K) (okFloorRoot T) hr (by rfl) T.G_floor_root T.F_floor_root.kp T.B_floor_root .nil pass0 (pa_cons (pe_call (sp := spDiscriminant K) (okDiscriminant T) hr (by rfl) T.G_discriminant T.F_discriminant.kp T.B_discriminant .nil pass0 (pa_cons (pv 0) pa_nil)) pa_nil)))
      (pss_cons (ps_set (i := 5) scStepOf.nd rfl (Or.inl rfl) (pe_op op_sub (pv 4) (pe_op op_mod (pe_op op_add (pv 4) (pv 2)) (pe_op op_mulW pe_int (pe_callB (absQ K) (by rfl) T.m_abs (by decide +kernel) (pa_cons (pv 3) pa_nil))))))
      (pss_one (ps_ret (pe_tup (pa_cons pe_int (pa_cons (pe_un un_neg pe_int) (pa_cons pe_int (pa_cons (pe_op op_fdivX (pe_op op_add (pv 2) (pv 5)) (pe_op op_mulW pe_int (pv 3))) pa_nil)))))))))), ?_⟩
    have hd : b * b - 4 * a * c = D := F.d
    have d0 := F.d0
    have d1 := F.d1
    have c0 := F.c0
    obtain ⟨r0, r1, _⟩ := F.root
    have br : Bd 60 (rootI D) := Bd.om (by omega)
    rw [← hd] at kk
    clean_wf
    refine kk _ _ ?_ (by assumption)
    array_mem_dec
def spStepNear (K : PySem.W.Frag) : Sp := fun vs H Q _ => ∃ (af : Addr) (a b c D : Int), vs = [.ref af] ∧ SqT K H af [.int a, .int b, .int c] ∧ IF D a b c ∧ Bd 60 a ∧ Bd 60 b ∧ Bd 60 c ∧ R.Nw H [.int 0, .int (-1), .int 1, .int (if rootI D < (c.natAbs : Int) then nF b c else nN D b c)] Q
theorem uStepNear {K : PySem.W.Frag} {H : Hp} {Q : VK} {E : XK} {vs : List V} {af : Addr} {a b c D : Int} (e : vs = [.ref af]) (hs : SqT K H af [.int a, .int b, .int c]) (F : IF D a b c) (b1 : Bd 60 a) (b2 : Bd 60 b) (b3 : Bd 60 c) (kk : R.Nw H [.int 0, .int (-1), .int 1, .int (if rootI D < (c.natAbs : Int) then nF b c else nN D b c)] Q) : spStepNear K vs H Q E := ⟨af, a, b, c, D, e, hs, F, b1, b2, b3, kk⟩
theorem okStepNear (T : Txt K mg fa fd) : FnOk P w K mg base CX0 3 (fa 7) (fd 7) ["form"] (spStepNear K) := by
  refine T.F__step_near.ok scStepNear (fun vs H Q E h => ?_) (fun cdv A outer s H vs Q E hr h => ?_)
  · obtain ⟨af, a, b, c, D, rfl, hs, F, b1, b2, b3, kk⟩ := h
    rfl
  · obtain ⟨af, a, b, c, D, rfl, hs, F, b1, b2, b3, kk⟩ := h
    refine ⟨_, (pss_cons (ps_asg (pv 0) (pgT K 3 (by rfl) (pgs_cons (pg_name (i := 1) scStepNear.nd rfl (Or.inl rfl)) (pgs_cons (pg_name (i := 2) scStepNear.nd rfl (Or.inl rfl)) (pgs_cons (pg_name (i := 3) scStepNear.nd rfl (Or.inl rfl)) pgs_nil)))))
      (pss_cons (ps_if (pt_cmp (pc_gt (pe_callB (absQ K) (by rfl) T.m_abs (by decide +kernel) (pa_cons (pv 3) pa_nil)) (pe_call (sp := spFloorRoot K) (okFloorRoot T) (hr.mono (by decide)) (by rfl) T.G_floor_root T.F_floor_root.kp T.B_floor_root .nil pass0 (pa_cons (pe_call (sp := spDiscriminant K) (okDiscriminant T) (hr.mono (by decide)) (by rfl) T.G_discriminant T.F_discriminant.kp T.B_discriminant .nil pass0 (pa_cons (pv 0) pa_nil)) pa_nil))))
      (pss_one (ps_ret (pe_tup (pa_cons pe_int (pa_cons (pe_un un_neg pe_int) (pa_cons pe_int (pa_cons (pe_op op_mulW (pe_op op_fdivX (pe_op op_add (pv 2) (pe_callB (absQ K) (by rfl) T.m_abs (by decide +kernel) (pa_cons (pv 3) pa_nil))) (pe_op op_mulW pe_int (pe_callB (absQ K) (by rfl) T.m_abs (by decide +kernel) (pa_cons (pv 3) pa_nil)))) (pe_ifExp (pt_cmp (pc_gt (pv 3) pe_int)) pe_int (pe_un un_neg pe_int))) pa_nil)))))))
      pss_nil)
      (pss_one (ps_ret (pe_call (sp := spStepOf K) (okStepOf T) hr (by rfl) T.G_step_of T.F_step_of.kp T.B_step_of .nil pass0 (pa_cons (pv 0) pa_nil)))))), ?_⟩
    have hd : b * b - 4 * a * c = D := F.d
    have d0 := F.d0
    have d1 := F.d1
    have c0 := F.c0
    obtain ⟨r0, r1, _⟩ := F.root
    have br : Bd 60 (rootI D) := Bd.om (by omega)
    clean_wf
    rw [hd]
    clean_wf
    refine way2 (fun z => ?_) (fun z => ?_)
    · rw [if_pos z] at kk
      clean_wf
      refine way2 (fun y => ?_) (fun y => ?_)
      · have e : nF b c = (b + (c.natAbs : Int)).fdiv (2 * (c.natAbs : Int)) * 1 := by
          unfold nF
          rw [if_pos y]
        rw [e] at kk
        clean_wf
        exact kk _ _ sn ht
      · have e : nF b c = (b + (c.natAbs : Int)).fdiv (2 * (c.natAbs : Int)) * -1 := by
          unfold nF
          rw [if_neg y]
        rw [e] at kk
        clean_wf
        exact kk _ _ sn ht
    · rw [if_neg z] at kk
      clean_wf
/-- what reduce_indefinite gives -/
structure RdI (D a0 b0 c0 a b c p q r s : Int) : Prop where
  F : IF D a b c
  ea : a = fA a0 b0 c0 p r
  eb : b = fB a0 b0 c0 p q r s
  ec : c = fA a0 b0 c0 q s
  det : p * s - q * r = 1
  ba : (a.natAbs : Int) ≤ 1099511627776
  bb : (b.natAbs : Int) ≤ 1099511627776
  bc : (c.natAbs : Int) ≤ 1099511627776
def spReduceIndefinite (K : PySem.W.Frag) : Sp := fun vs H Q _ => ∃ (af : Addr) (a b c D : Int), vs = [.ref af] ∧ SqT K H af [.int a, .int b, .int c] ∧ IF D a b c ∧ (a.natAbs : Int) ≤ 1099511627776 ∧ (b.natAbs : Int) ≤ 1099511627776 ∧ (c.natAbs : Int) ≤ 1099511627776 ∧
  ∀ H' t tf tm a' b' c' p q r s, Same H H' → H' t = some (.tup [.ref tf, .ref tm]) → SqT K H' tf [.int a', .int b', .int c'] → SqT K H' tm [.int p, .int q, .int r, .int s] → RdI D a b c a' b' c' p q r s → RedI D a' b' → Bd 14100 p → Bd 14100 q → Bd 14100 r → Bd 14100 s → Q (.ref t) H'
theorem RdI.step {D a0 b0 c0 a b c p q r s n : Int} (h : RdI D a0 b0 c0 a b c p q r s) (b1 : ((-b + 2 * c * n).natAbs : Int) ≤ 1099511627776) (b2 : ((a - b * n + c * n * n).natAbs : Int) ≤ 1099511627776) :
    RdI D a0 b0 c0 c (-b + 2 * c * n) (a - b * n + c * n * n) (p * 0 + q * 1) (p * (-1) + q * n) (r * 0 + s * 1) (r * (-1) + s * n) := by
  obtain ⟨F, ea, eb, ec, det, ba, bb, bc⟩ := h
  refine ⟨F.go n, ?_, ?_, ?_, ?_, bc, b1, b2⟩
  · rw [← actA, ← ea, ← eb, ← ec]
    unfold fA
    grind
  · rw [← actB, ← ea, ← eb, ← ec]
    unfold fB
    grind
  · rw [← actA, ← ea, ← eb, ← ec]
    unfold fA
    grind
  · grind
theorem uReduceIndefinite {K : PySem.W.Frag} {H : Hp} {Q : VK} {E : XK} {vs : List V} {af : Addr} {a b c D : Int} (e : vs = [.ref af]) (hs : SqT K H af [.int a, .int b, .int c]) (F : IF D a b c) (b1 : (a.natAbs : Int) ≤ 1099511627776) (b2 : (b.natAbs : Int) ≤ 1099511627776) (b3 : (c.natAbs : Int) ≤ 1099511627776)
    (kk : ∀ H' t tf tm a' b' c' p q r s, Same H H' → H' t = some (.tup [.ref tf, .ref tm]) → SqT K H' tf [.int a', .int b', .int c'] → SqT K H' tm [.int p, .int q, .int r, .int s] → RdI D a b c a' b' c' p q r s → RedI D a' b' → Bd 14100 p → Bd 14100 q → Bd 14100 r → Bd 14100 s → Q (.ref t) H') : spReduceIndefinite K vs H Q E := ⟨af, a, b, c, D, e, hs, F, b1, b2, b3, kk⟩
theorem act_go (a b c n : Int) : a * 0 * 0 + b * 0 * 1 + c * 1 * 1 = c ∧ 2 * a * 0 * (-1) + b * (0 * n + (-1) * 1) + 2 * c * 1 * n = -b + 2 * c * n ∧ a * (-1) * (-1) + b * (-1) * n + c * n * n = a - b * n + c * n * n := by
  refine ⟨by omega, ?_, ?_⟩
  · grind
  · grind
theorem okReduceIndefinite (T : Txt K mg fa fd) : FnOk P w K mg base CX0 4 (fa 6) (fd 6) ["form"] (spReduceIndefinite K) := by
  refine T.F_reduce_indefinite.ok scReduceIndefinite (fun vs H Q E h => ?_) (fun cdv A outer s H vs Q E hr h => ?_)
  · obtain ⟨af, a0, b0, c0, D, rfl, hs, F0, b1, b2, b3, kk⟩ := h
    rfl
  · obtain ⟨af, a0, b0, c0, D, rfl, hs, F0, b1, b2, b3, kk⟩ := h
    refine ⟨_, (pss_cons (ps_set (i := 1) scReduceIndefinite.nd rfl (Or.inl rfl) (pe_glob (v := .ref (fa 28)) (by rfl) T.g_UNIT rfl))
      (pss_cons (ps_while PassesOwn.never (pt_not (pt_val (pe_call (sp := spIsReduced K) (okIsReduced T) (hr.mono (by decide)) (by rfl) T.G_is_reduced T.F_is_reduced.kp T.B_is_reduced .nil pass0 (pa_cons (pv 0) pa_nil))))
      (pss_cons (ps_set (i := 2) scReduceIndefinite.nd rfl (Or.inl rfl) (pe_call (sp := spStepNear K) (okStepNear T) hr (by rfl) T.G__step_near T.F__step_near.kp T.B__step_near .nil pass0 (pa_cons (pv 0) pa_nil)))
        (pss_cons (ps_set (i := 0) scReduceIndefinite.nd rfl (Or.inl rfl) (pe_call (sp := spAct K) (okAct T) (hr.mono (by decide)) (by rfl) T.G_act T.F_act.kp T.B_act .nil pass0 (pa_cons (pv 0) (pa_cons (pv 2) pa_nil))))
        (pss_one (ps_set (i := 1) scReduceIndefinite.nd rfl (Or.inl rfl) (pe_call (sp := spMultiply K) (okMultiply T) (hr.mono (by decide)) (by rfl) T.G_multiply T.F_multiply.kp T.B_multiply .nil pass0 (pa_cons (pv 1) (pa_cons (pv 2) pa_nil))))))))
      (pss_one (ps_ret (pe_tup (pa_cons (pv 0) (pa_cons (pv 1) pa_nil))))))), ?_⟩
    have hU := fun H => T.S_UNIT H
    clean_wf
    refine ⟨fun m σ H' => ∃ (tf tm : Addr) (x2 : Option V) (a b c p q r s : Int) (i k : Nat), σ = [some (.ref tf), some (.ref tm), x2] ∧ Same H H' ∧ SqT K H' tf [.int a, .int b, .int c] ∧ SqT K H' tm [.int p, .int q, .int r, .int s] ∧ RdI D a0 b0 c0 a b c p q r s ∧
        Bd (70 * i + 1) p ∧ Bd (70 * i + 1) q ∧ Bd (70 * i + 1) r ∧ Bd (70 * i + 1) s ∧ ((RedI D a b ∧ m = 0 ∧ i ≤ 201) ∨ (¬ RedI D a b ∧ m = k + 1 ∧ i + k ≤ 200 ∧ Pt (rootI D) c k)), ?_, ?_⟩
    · have R0 : RdI D a0 b0 c0 a0 b0 c0 1 0 0 1 := ⟨F0, by unfold fA; omega, by unfold fB; omega, by unfold fA; omega, by decide, b1, b2, b3⟩
      by_cases z : RedI D a0 b0
      · exact ⟨0, _, _, _, a0, b0, c0, 1, 0, 0, 1, 0, 0, rfl, Same.refl _, by simp_wf, by simp_wf, R0, by unfold Bd; decide, by unfold Bd; decide, by unfold Bd; decide, by unfold Bd; decide, .inl ⟨z, rfl, by omega⟩⟩
      · refine ⟨142 + 1, _, _, _, a0, b0, c0, 1, 0, 0, 1, 0, 142, rfl, Same.refl _, by simp_wf, by simp_wf, R0, by unfold Bd; decide, by unfold Bd; decide, by unfold Bd; decide, by unfold Bd; decide, .inr ⟨z, rfl, by omega, ?_⟩⟩
        exact .inr ⟨41, rfl, by show c0.natAbs < 2199023255552; omega⟩
    rintro m σ H' ⟨tf, tm, x2, a, b, c, p, q, r, s, i, k, rfl, sm, sf, st, RI, e1, e2, e3, e4, hm⟩
    have F := RI.F
    have ba := RI.ba
    have bb := RI.bb
    have bc := RI.bc
    have g1 : Bd 60 a := Bd.om (by omega)
    have g2 : Bd 60 b := Bd.om (by omega)
    have g3 : Bd 60 c := Bd.om (by omega)
    clean_wf
    refine wayN2 (fun z => ?_) (fun z => ?_)
    · obtain ⟨hm, hik, hpt⟩ : m = k + 1 ∧ i + k ≤ 200 ∧ Pt (rootI D) c k := by
        rcases hm with ⟨h, _⟩ | ⟨_, h⟩
        · exact absurd h z
        · exact h
      obtain ⟨r0, r1, r2, r3⟩ := F.root
      have c0' := F.c0
      obtain ⟨v1, v2, v3⟩ := bN_spec (D := D) (b := b) c0'
      have w1 := nF_spec (b := b) c0'
      generalize hn : (if rootI D < (c.natAbs : Int) then nF b c else nN D b c) = n
      have hb : ((-b + 2 * c * n).natAbs : Int) ≤ 1099511627776 := by
        by_cases y : rootI D < (c.natAbs : Int)
        · rw [if_pos y] at hn
          rw [← hn]
          omega
        · rw [if_neg y] at hn
          rw [← hn, v3]
          omega
      have hns := n_size c0' bb hb
      have bn : Bd 60 n := Bd.om (by omega)
      have F2 := F.go n
      have next : ∃ k', (RedI D c (-b + 2 * c * n) ∧ k' = 0 ∨ ¬ RedI D c (-b + 2 * c * n) ∧ k' < k ∧ Pt (rootI D) (a - b * n + c * n * n) k') ∧ ((a - b * n + c * n * n).natAbs : Int) ≤ 1099511627776 := by
        by_cases y : rootI D < (c.natAbs : Int)
        · rw [if_pos y] at hn
          have f := F2.far y (by rw [← hn]; exact w1)
          obtain ⟨k', h1, h2⟩ := hpt.far r1 y f c0'
          by_cases x : RedI D c (-b + 2 * c * n)
          · exact ⟨0, .inl ⟨x, rfl⟩, by omega⟩
          · exact ⟨k', .inr ⟨x, h1, h2⟩, by omega⟩
        · rw [if_neg y] at hn
          have e : -b + 2 * c * n = bN D b c := by
            rw [← hn]
            exact v3
          have sq : (-b + 2 * c * n) * (-b + 2 * c * n) ≤ 10000 := by
            rw [e, ← sq_abs]
            exact Int.mul_le_mul (show ((bN D b c).natAbs : Int) ≤ 100 by omega) (show ((bN D b c).natAbs : Int) ≤ 100 by omega) (by omega) (by omega)
          have sm := F2.small sq
          rcases F2.near (by omega) (by rw [e]; exact v1) (by rw [e]; exact v2) with f | f
          · exact ⟨0, .inl ⟨f, rfl⟩, by omega⟩
          · obtain ⟨k', h1, h2⟩ := hpt.near r1 (by omega) f
            by_cases x : RedI D c (-b + 2 * c * n)
            · exact ⟨0, .inl ⟨x, rfl⟩, by omega⟩
            · exact ⟨k', .inr ⟨x, h1, h2⟩, by omega⟩
      obtain ⟨k', hk', hcc⟩ := next
      have R2 := RI.step hb hcc
      obtain ⟨ga, gb, gc⟩ := act_go a b c n
      refine ⟨fun σ' H2 => ∃ m' < m, ∃ (tf tm : Addr) (x2 : Option V) (a b c p q r s : Int) (i k : Nat), σ' = [some (.ref tf), some (.ref tm), x2] ∧ Same H H2 ∧ SqT K H2 tf [.int a, .int b, .int c] ∧ SqT K H2 tm [.int p, .int q, .int r, .int s] ∧ RdI D a0 b0 c0 a b c p q r s ∧
        Bd (70 * i + 1) p ∧ Bd (70 * i + 1) q ∧ Bd (70 * i + 1) r ∧ Bd (70 * i + 1) s ∧ ((RedI D a b ∧ m' = 0 ∧ i ≤ 201) ∨ (¬ RedI D a b ∧ m' = k + 1 ∧ i + k ≤ 200 ∧ Pt (rootI D) c k)), fun σ' H2 h => h, ?_⟩
      have hm2 : ∃ m', m' < m ∧ ((RedI D c (-b + 2 * c * n) ∧ m' = 0 ∧ i + 1 ≤ 201) ∨ (¬ RedI D c (-b + 2 * c * n) ∧ m' = k' + 1 ∧ i + 1 + k' ≤ 200 ∧ Pt (rootI D) (a - b * n + c * n * n) k')) := by
        rcases hk' with ⟨x, _⟩ | ⟨x, y, w⟩
        · exact ⟨0, by omega, .inl ⟨x, rfl, by omega⟩⟩
        · exact ⟨k' + 1, by omega, .inr ⟨x, rfl, by omega, w⟩⟩
      obtain ⟨m', hlt, hdis⟩ := hm2
      have y0 : Bd 1 0 := by unfold Bd; decide
      have y1 : Bd 1 1 := by unfold Bd; decide
      have ym : Bd 1 (-1) := by unfold Bd; decide
      clean_wf
      refine ⟨m', hlt, _, _, _, c, -b + 2 * c * n, a - b * n + c * n * n, p * 0 + q * 1, p * (-1) + q * n, r * 0 + s * 1, r * (-1) + s * n, i + 1, k', rfl, ?_, ?_, ?_, R2, ((e1.mul y0).add (e2.mul y1)).mono (by omega), ((e1.mul ym).add (e2.mul bn)).mono (by omega), ((e3.mul y0).add (e4.mul y1)).mono (by omega), ((e3.mul ym).add (e4.mul bn)).mono (by omega), hdis⟩
      · array_mem_dec
      · have h : ∀ t, SqT K HN t [.int (a * 0 * 0 + b * 0 * 1 + c * 1 * 1), .int (2 * a * 0 * (-1) + b * (0 * n + (-1) * 1) + 2 * c * 1 * n), .int (a * (-1) * (-1) + b * (-1) * n + c * n * n)] → SqT K HN t [.int c, .int (-b + 2 * c * n), .int (a - b * n + c * n * n)] := by
          intro t h
          rw [ga, gb, gc] at h
          exact h
        refine h _ ?_
        rw [← hn]
        simp_wf
      · rw [← hn]
        simp_wf
    · have hi : i ≤ 201 := by
        rcases hm with ⟨_, _, h⟩ | ⟨h, _⟩
        · exact h
        · exact absurd z h
      clean_wf
      exact kk _ _ tf tm a b c p q r s (sm.trans sn) ht (same_seqT sn sf) (same_seqT sn st) RI z (e1.mono (by omega)) (e2.mono (by omega)) (e3.mono (by omega)) (e4.mono (by omega))
def spCycle (K : PySem.W.Frag) : Sp := fun vs H Q _ => ∃ (af : Addr) (a b c D : Int) (k : Nat), vs = [.ref af] ∧ SqT K H af [.int a, .int b, .int c] ∧ IF D a b c ∧ RedI D a b ∧ Cyc D (a, b, c) (k + 1) ∧ k + 1 ≤ 1624 ∧
  ∀ H' l ys, Same H H' → H l = none → H' l = some (.lst ys) → Pps K H' ys (ringP D (a, b, c) (k + 1)) → Q (.ref l) H'
theorem uCycle {K : PySem.W.Frag} {H : Hp} {Q : VK} {E : XK} {vs : List V} {af : Addr} {a b c D : Int} {k : Nat} (e : vs = [.ref af]) (hs : SqT K H af [.int a, .int b, .int c]) (F : IF D a b c) (h1 : RedI D a b) (h2 : Cyc D (a, b, c) (k + 1)) (h3 : k + 1 ≤ 1624)
    (kk : ∀ H' l ys, Same H H' → H l = none → H' l = some (.lst ys) → Pps K H' ys (ringP D (a, b, c) (k + 1)) → Q (.ref l) H') : spCycle K vs H Q E := ⟨af, a, b, c, D, k, e, hs, F, h1, h2, h3, kk⟩
theorem okCycle (T : Txt K mg fa fd) : FnOk P w K mg base CX0 3 (fa 9) (fd 9) ["form"] (spCycle K) := by
  refine T.F_cycle.ok scCycle (fun vs H Q E h => ?_) (fun cdv A outer s H vs Q E hr h => ?_)
  · obtain ⟨af, a, b, c, D, k, rfl, hs, F, R0, cy, hk, kk⟩ := h
    rfl
  · obtain ⟨af, a, b, c, D, k, rfl, hs, F, R0, cy, hk, kk⟩ := h
    refine ⟨_, (pss_cons (ps_set (i := 1) scCycle.nd rfl (Or.inl rfl) (pe_lst (pa_cons (pe_tup (pa_cons (pv 0) (pa_cons (pe_glob (v := .ref (fa 28)) (by rfl) T.g_UNIT rfl) pa_nil))) pa_nil)))
      (pss_cons (ps_set (i := 2) scCycle.nd rfl (Or.inl rfl) (pe_call (sp := spStepOf K) (okStepOf T) hr (by rfl) T.G_step_of T.F_step_of.kp T.B_step_of .nil pass0 (pa_cons (pv 0) pa_nil)))
      (pss_cons (ps_par (i := 3) (j := 4) (by rfl) scCycle.nd rfl rfl (by decide) rfl rfl (pa_cons (pe_call (sp := spAct K) (okAct T) hr (by rfl) T.G_act T.F_act.kp T.B_act .nil pass0 (pa_cons (pv 0) (pa_cons (pv 2) pa_nil))) (pa_cons (pv 2) pa_nil)) (by rfl))
      (pss_cons (ps_while PassesOwn.never (pt_cmpR (neDQ K hr.units) (pv 3) (pv 0) (nomark _))
      (pss_cons (ps_expr (pe_bm PySem.F.plainAttrs_list PySem.F.slot_list_append PySem.F.type_list_append mt_append (pv 1) (pa_cons (pe_tup (pa_cons (pv 3) (pa_cons (pv 4) pa_nil))) pa_nil)))
        (pss_cons (ps_set (i := 2) scCycle.nd rfl (Or.inl rfl) (pe_call (sp := spStepOf K) (okStepOf T) hr (by rfl) T.G_step_of T.F_step_of.kp T.B_step_of .nil pass0 (pa_cons (pv 3) pa_nil)))
        (pss_one (ps_par (i := 3) (j := 4) (by rfl) scCycle.nd rfl rfl (by decide) rfl rfl (pa_cons (pe_call (sp := spAct K) (okAct T) hr (by rfl) T.G_act T.F_act.kp T.B_act .nil pass0 (pa_cons (pv 3) (pa_cons (pv 2) pa_nil))) (pa_cons (pe_call (sp := spMultiply K) (okMultiply T) (hr.mono (by decide)) (by rfl) T.G_multiply T.F_multiply.kp T.B_multiply .nil pass0 (pa_cons (pv 4) (pa_cons (pv 2) pa_nil))) pa_nil)) (by rfl))))))
      (pss_one (ps_ret (pv 1))))))), ?_⟩
    have hU := fun H => T.S_UNIT H
    obtain ⟨g1, g2, g3⟩ := red_bd F R0
    have hn1 := nK_small (D := D) (f := (a, b, c)) F R0
    have bn : Bd 10 (nN D b c) := Bd.of (m := 100) hn1 (by decide)
    clean_wf
    rename_i Ha ta sa na hta Hb tb sb htb Hc tc sc htc
    have nD : H tb = none := by
      cases e : H tb with
      | none => rfl
      | some o =>
        rw [sa _ _ e] at nn
        cases nn
    refine ⟨fun m σ H' => ∃ (ys : List V) (tst tot tmt : Addr) (i : Nat), σ = [some (.ref af), some (.ref tb), some (.ref tst), some (.ref tot), some (.ref tmt)] ∧ m = k - i ∧ i ≤ k ∧ Same H H' ∧ H' tb = some (.lst ys) ∧ Pps K H' ys (ringP D (a, b, c) (i + 1)) ∧
      SqT K H' tot ((fL (rhoN D (i + 1) (a, b, c))).map V.int) ∧ SqT K H' tmt ((mL (mN D (a, b, c) (i + 1))).map V.int), ?_, ?_⟩
    · refine ⟨k - 0, [.ref ta], tc, tn, tc, 0, rfl, rfl, Nat.zero_le _, by array_mem_dec, sn _ _ (sc _ _ htb), ?_, SqT.of ht, ?_⟩
      · rw [ringP_cons]
        exact .cons (f := fL (a, b, c)) (m := mL (1, 0, 0, 1)) (by simp_wf) (show SqT K HN af [V.int a, V.int b, V.int c] by simp_wf) (hU HN) .nil
      · rw [mN_one]
        show SqT K HN tc [V.int 0, V.int (-1), V.int 1, V.int (nN D b c)]
        simp_wf
    rintro m σ H' ⟨ys, tst, tot, tmt, i, rfl, hm, hi, sm, hl, pp, so, smt⟩
    have sf := same_seqT sm hs
    obtain ⟨Fi, Ri⟩ := rhoN_ok (f := (a, b, c)) (i + 1) F R0
    obtain ⟨_, _, mb⟩ := mN_ok (f := (a, b, c)) F R0 (i + 1)
    have nxt : rhoN D (i + 1 + 1) (a, b, c) = rho D (rhoN D (i + 1) (a, b, c)) := rhoN_succ D (i + 1) (a, b, c)
    have mnx : mN D (a, b, c) (i + 1 + 1) = mStep (mN D (a, b, c) (i + 1)) (nK D (rhoN D (i + 1) (a, b, c))) := rfl
    have last : i = k → rhoN D (i + 1) (a, b, c) = (a, b, c) := fun e => by
      rw [e]
      exact cy.back
    have other : i ≠ k → rhoN D (i + 1) (a, b, c) ≠ (a, b, c) := fun e => cy.first (i + 1) (by omega) (by omega)
    have hrp := ringP_snoc D (a, b, c) (i + 1)
    have hyl := pp.len
    rw [ringP_len] at hyl
    have hni := nK_small Fi Ri
    generalize mN D (a, b, c) (i + 1) = M at *
    generalize rhoN D (i + 1) (a, b, c) = g at *
    obtain ⟨x, y, z⟩ := g
    obtain ⟨m1, m2, m3, m4⟩ := M
    obtain ⟨e1, e2, e3, e4⟩ := mb
    have e1 := e1.mono (show 14 * (i + 1) + 1 ≤ 22800 by omega)
    have e2 := e2.mono (show 14 * (i + 1) + 1 ≤ 22800 by omega)
    have e3 := e3.mono (show 14 * (i + 1) + 1 ≤ 22800 by omega)
    have e4 := e4.mono (show 14 * (i + 1) + 1 ≤ 22800 by omega)
    have Fi : IF D x y z := Fi
    have Ri : RedI D x y := Ri
    obtain ⟨u1, u2, u3⟩ := red_bd Fi Ri
    have bi : Bd 10 (nN D y z) := Bd.of (m := 100) hni (by decide)
    change SqT K H' tot [V.int x, V.int y, V.int z] at so
    change SqT K H' tmt [V.int m1, V.int m2, V.int m3, V.int m4] at smt
    clean_wf
    refine wayN2 (fun hz => ?_) (fun hz => ?_)
    · have ik : i < k := by
        rcases Nat.lt_or_ge i k with h | h
        · exact h
        · have e := last (by omega)
          injection e with e1 e2
          injection e2 with e2 e3
          exact absurd ⟨e1, e2, e3⟩ hz
      refine ⟨fun σ' H2 => ∃ m' < m, ∃ (ys : List V) (tst tot tmt : Addr) (i : Nat), σ' = [some (.ref af), some (.ref tb), some (.ref tst), some (.ref tot), some (.ref tmt)] ∧ m' = k - i ∧ i ≤ k ∧ Same H H2 ∧ H2 tb = some (.lst ys) ∧ Pps K H2 ys (ringP D (a, b, c) (i + 1)) ∧
        SqT K H2 tot ((fL (rhoN D (i + 1) (a, b, c))).map V.int) ∧ SqT K H2 tmt ((mL (mN D (a, b, c) (i + 1))).map V.int), fun σ' H2 h => h, ?_⟩
      clean_wf
      have hln := sn _ _ hl
      refine R.app hln (by omega) (fun H5 e5 h5 => ?_)
      have s5 : KT K HN H5 := by
        rw [e5]
        exact kt_off hln
      have sm5 : Same H H5 := by
        rw [e5]
        exact same_mut (sm.trans sn) nD
      have so5 := s5 _ _ (same_seqT sn so)
      have smt5 := s5 _ _ (same_seqT sn smt)
      have pp5 : Pps K H5 (ys ++ [.ref tn]) (ringP D (a, b, c) (i + 1 + 1)) := by
        rw [hrp]
        exact ((pp.same sn).kt s5).snoc (s5 _ _ (SqT.of ht)) so5 smt5
      clear s5 pp so smt
      generalize tn = tq at *
      clean_wf
      rename_i H6 t6 s6 ht6 H7 t7 s7 ht7
      refine ⟨k - (i + 1), by omega, _, _, _, _, i + 1, rfl, rfl, by omega, by array_mem_dec, sn _ _ (s7 _ _ (s6 _ _ h5)), pp5.same (by array_mem_dec), ?_, ?_⟩
      · rw [nxt]
        exact same_seqT sn (SqT.of ht7)
      · rw [mnx]
        exact SqT.of ht
    · skip
      clean_wf
      have ik : i = k := by
        by_cases h : i = k
        · exact h
        · exact absurd (by rw [hz.1, hz.2.1, hz.2.2]) (other h)
      subst ik
      exact kk _ _ _ sm nD hl pp
def spCanonical (K : PySem.W.Frag) : Sp := fun vs H Q _ => ∃ (af : Addr) (a b c D : Int), vs = [.ref af] ∧ SqT K H af [.int a, .int b, .int c] ∧ IF D a b c ∧ (a.natAbs : Int) ≤ 1099511627776 ∧ (b.natAbs : Int) ≤ 1099511627776 ∧ (c.natAbs : Int) ≤ 1099511627776 ∧ D ≤ 3200 ∧
  ∀ H' t tf tm x y z p q r v, Same H H' → H' t = some (.tup [.ref tf, .ref tm]) → SqT K H' tf [.int x, .int y, .int z] → SqT K H' tm [.int p, .int q, .int r, .int v] → CanI D (a, b, c) (x, y, z) (p, q, r, v) → Q (.ref t) H'
theorem uCanonical {K : PySem.W.Frag} {H : Hp} {Q : VK} {E : XK} {vs : List V} {af : Addr} {a b c D : Int} (e : vs = [.ref af]) (hs : SqT K H af [.int a, .int b, .int c]) (F : IF D a b c) (b1 : (a.natAbs : Int) ≤ 1099511627776) (b2 : (b.natAbs : Int) ≤ 1099511627776) (b3 : (c.natAbs : Int) ≤ 1099511627776) (hD : D ≤ 3200)
    (kk : ∀ H' t tf tm x y z p q r v, Same H H' → H' t = some (.tup [.ref tf, .ref tm]) → SqT K H' tf [.int x, .int y, .int z] → SqT K H' tm [.int p, .int q, .int r, .int v] → CanI D (a, b, c) (x, y, z) (p, q, r, v) → Q (.ref t) H') : spCanonical K vs H Q E := ⟨af, a, b, c, D, e, hs, F, b1, b2, b3, hD, kk⟩
theorem okCanonical (T : Txt K mg fa fd) : FnOk P w K mg base CX0 5 (fa 10) (fd 10) ["form"] (spCanonical K) := by
  refine T.F_canonical.ok scCanonical (fun vs H Q E h => ?_) (fun cdv A outer s H vs Q E hr h => ?_)
  · obtain ⟨af, a, b, c, D, rfl, hs, F, b1, b2, b3, hD, kk⟩ := h
    rfl
  · obtain ⟨af, a, b, c, D, rfl, hs, F, b1, b2, b3, hD, kk⟩ := h
    refine ⟨_, (pss_cons (ps_asg (pe_call (sp := spReduceIndefinite K) (okReduceIndefinite T) hr (by rfl) T.G_reduce_indefinite T.F_reduce_indefinite.kp T.B_reduce_indefinite .nil pass0 (pa_cons (pv 0) pa_nil)) (pgT K 2 (by rfl) (pgs_cons (pg_name (i := 1) scCanonical.nd rfl (Or.inl rfl)) (pgs_cons (pg_name (i := 2) scCanonical.nd rfl (Or.inl rfl)) pgs_nil))))
      (pss_cons (ps_asg (pe_callB (minDQ K (PySem.W.Tup Int × PySem.W.Tup Int) rfl (room65 hr)) (by rfl) T.m_min (by decide +kernel) (pa_cons (pe_call (sp := spCycle K) (okCycle T) (hr.mono (by decide)) (by rfl) T.G_cycle T.F_cycle.kp T.B_cycle .nil pass0 (pa_cons (pv 1) pa_nil)) pa_nil)) (pgT K 2 (by rfl) (pgs_cons (pg_name (i := 3) scCanonical.nd rfl (Or.inl rfl)) (pgs_cons (pg_name (i := 4) scCanonical.nd rfl (Or.inl rfl)) pgs_nil))))
      (pss_one (ps_ret (pe_tup (pa_cons (pv 3) (pa_cons (pe_call (sp := spMultiply K) (okMultiply T) (hr.mono (by decide)) (by rfl) T.G_multiply T.F_multiply.kp T.B_multiply .nil pass0 (pa_cons (pv 2) (pa_cons (pv 4) pa_nil))) pa_nil))))))), ?_⟩
    clean_wf
    refine uReduceIndefinite rfl (by simp_wf) F b1 b2 b3 ?_
    intro H1 t tf tm a' b' c' p q r v sm1 ht1 sf1 st1 RI hred e1 e2 e3 e4
    have F' := RI.F
    obtain ⟨k, cy, hk⟩ := ring_ok (f := (a', b', c')) F' hred hD
    clean_wf
    intro H2 l ys sm2 nl hl pp
    clean_wf
    rw [ringP_cons] at pp
    refine R.minPps (SqL.of hl) pp ?_
    intro i x u v' f m hat sx su sv hmin
    rw [← ringP_cons] at hat
    obtain ⟨hi, e⟩ := ringP_at hat
    injection e with ef em
    obtain ⟨md, me, mb⟩ := mN_ok (f := (a', b', c')) F' hred i
    rw [ef] at su hmin
    rw [em] at sv
    clear hat ef em pp
    generalize mN D (a', b', c') i = M at *
    generalize rhoN D i (a', b', c') = g at *
    obtain ⟨X, Y, Z⟩ := g
    obtain ⟨m1, m2, m3, m4⟩ := M
    obtain ⟨f1, f2, f3, f4⟩ := mb
    have f1 := f1.mono (show 14 * i + 1 ≤ 22800 by omega)
    have f2 := f2.mono (show 14 * i + 1 ≤ 22800 by omega)
    have f3 := f3.mono (show 14 * i + 1 ≤ 22800 by omega)
    have f4 := f4.mono (show 14 * i + 1 ≤ 22800 by omega)
    change SqT K H2 u [V.int X, V.int Y, V.int Z] at su
    change SqT K H2 v' [V.int m1, V.int m2, V.int m3, V.int m4] at sv
    clean_wf
    refine kk _ _ _ _ X Y Z _ _ _ _ (by array_mem_dec) ht (by simp_wf) (by simp_wf) ⟨?_, ?_, ⟨((e1.mul f1).add (e2.mul f3)).mono (by decide), ((e1.mul f2).add (e2.mul f4)).mono (by decide), ((e3.mul f1).add (e4.mul f3)).mono (by decide), ((e3.mul f2).add (e4.mul f4)).mono (by decide)⟩, (a', b', c'), k, (p, q, r, v), F', hred, RI.det, ?_, cy, ?_⟩
    · have d1 : p * v - q * r = 1 := RI.det
      have d2 : m1 * m4 - m2 * m3 = 1 := md
      show (p * m1 + q * m3) * (r * m2 + v * m4) - (p * m2 + q * m4) * (r * m1 + v * m3) = 1
      have e6 : (p * m1 + q * m3) * (r * m2 + v * m4) - (p * m2 + q * m4) * (r * m1 + v * m3) = (p * v - q * r) * (m1 * m4 - m2 * m3) := by grind
      rw [e6, d1, d2]
      rfl
    · have e7 : (a', b', c') = actF (a, b, c) p q r v := fm_ext RI.ea RI.eb RI.ec
      rw [me, e7]
      exact actF_mul (a, b, c) p q r v m1 m2 m3 m4
    · exact fm_ext RI.ea RI.eb RI.ec
    · have e9 : ((List.range k).map fun i => (fL (rhoN D (i + 1) (a', b', c')), mL (mN D (a', b', c') (i + 1)))).map (·.1) = (List.range k).map fun i => fL (rhoN D (i + 1) (a', b', c')) := by
        rw [List.map_map]
        rfl
      rw [e9] at hmin
      exact hmin
def spLawCell (K : PySem.W.Frag) : Sp := fun vs H Q _ => ∃ (l : Addr) (ns : List Int) (j : Nat), vs = [.ref l, .int (j : Int)] ∧ SqL K H l (ns.map V.int) ∧ ∀ v : Int, Q (.int v) H
theorem okLawCell (T : Txt K mg fa fd) : FnOk P w K mg base CX0 1 (fa 11) (fd 11) ["script", "k"] (spLawCell K) := by
  refine T.F__law_cell.ok scLawCell (fun vs H Q E h => ?_) (fun cdv A outer s H vs Q E hr h => ?_)
  · obtain ⟨l, ns, j, rfl, hS, q⟩ := h
    rfl
  · obtain ⟨l, ns, j, rfl, hS, q⟩ := h
    refine ⟨_, (pss_cons (ps_if (pt_cmp (pc_lt (pv 1) (pe_callB (lenQ K) (by rfl) T.m_len (by decide +kernel) (pa_cons (pv 0) pa_nil))))
      (pss_one (ps_ret (pe_ix (ixL K) (pv 0) (pv 1) (fun _ _ => rfl))))
      pss_nil)
      (pss_one (ps_ret pe_int))), ?_⟩
    refine ⟨_, rfl, _, rfl, _, _, rfl, .inl hS, _, _, rfl, rfl, _, rfl, ite2 (fun e => ?_) (fun e => ?_)⟩
    · have e1 : (j : Int) < ((ns.map V.int).length : Int) := of_decide_eq_true e
      have hj : j < ns.length := by
        rw [List.length_map] at e1
        omega
      exact ⟨_, rfl, _, rfl, _, _, _, _, rfl, rfl, hS, atI_nat (by rw [List.getElem?_map, List.getElem?_eq_getElem hj]; rfl), q _⟩
    · exact q 0
def spLawNumbers (K : PySem.W.Frag) : Sp := fun vs H Q _ => ∃ (c : Int) (m : Nat), vs = [.int c, .int (m : Int)] ∧ m ≤ 100 ∧
  ∀ H' p (ns : List Int), Same H H' → H p = none → H' p = some (.lst (ns.map V.int)) → ns.length = m → (∀ n ∈ ns, 0 ≤ n ∧ n < 1000) → Q (.ref p) H'
theorem okLawNumbers (T : Txt K mg fa fd) : FnOk P w K mg base CX0 1 (fa 12) (fd 12) ["cell", "many"] (spLawNumbers K) := by
  refine T.F__law_numbers.ok scLawNumbers (fun vs H Q E h => ?_) (fun cdv A outer s H vs Q E hr h => ?_)
  · obtain ⟨c, m, rfl, hm, q⟩ := h
    rfl
  · obtain ⟨c, m, rfl, hm, q⟩ := h
    refine ⟨_, (pss_cons (ps_set (i := 2) scLawNumbers.nd rfl (Or.inl rfl) (pe_callB (absQ K) (by rfl) T.m_abs (by decide +kernel) (pa_cons (pv 0) pa_nil)))
      (pss_cons (ps_set (i := 3) scLawNumbers.nd rfl (Or.inl rfl) (pv 2))
      (pss_cons (ps_set (i := 4) scLawNumbers.nd rfl (Or.inl rfl) (pe_lst pa_nil))
      (pss_cons (ps_for PassesOwn.never rfl (pi_range1 (by rfl) T.m_range (pa_cons (pv 1) pa_nil)) (pg_name (i := 5) scLawNumbers.nd rfl (Or.inl rfl))
      (pss_one (ps_if (PW.pt (pw_and (pt_cmp (pc_ge (pv 3) (pe_op op_pow pe_int pe_int))) (pw_and1 (pt_cmp (pc_gt (pv 2) pe_int)))))
        (pss_cons (ps_expr (pe_bm PySem.F.plainAttrs_list PySem.F.slot_list_append PySem.F.type_list_append mt_append (pv 4) (pa_cons (pe_op op_mod (pe_callTy (intQ K) (by rfl) T.m_int (by decide +kernel) (pa_cons (pv 2) pa_nil)) pe_int) pa_nil)))
          (pss_one (ps_set (i := 2) scLawNumbers.nd rfl (Or.inl rfl) (pe_op op_fdiv (pv 2) pe_int))))
        (pss_cons (ps_set (i := 6) scLawNumbers.nd rfl (Or.inl rfl) (pe_op op_mod (pe_callTy (intQ K) (by rfl) T.m_int (by decide +kernel) (pa_cons (pe_op op_add (pe_op op_add (pe_op op_mul (pv 3) pe_int) (pe_op op_mul (pv 5) pe_int)) pe_int) pa_nil)) pe_int))
          (pss_cons (ps_set (i := 6) scLawNumbers.nd rfl (Or.inl rfl) (pe_op op_mod (pe_callTy (intQ K) (by rfl) T.m_int (by decide +kernel) (pa_cons (pe_op op_add (pe_op op_add (pe_op op_mul (pv 6) (pv 6)) (pe_op op_mul pe_int (pv 5))) pe_int) pa_nil)) pe_int))
          (pss_one (ps_expr (pe_bm PySem.F.plainAttrs_list PySem.F.slot_list_append PySem.F.type_list_append mt_append (pv 4) (pa_cons (pe_op op_mod (pe_callTy (intQ K) (by rfl) T.m_int (by decide +kernel) (pa_cons (pe_op op_fdiv (pv 6) pe_int) pa_nil)) pe_int) pa_nil)))))))))
      (pss_one (ps_ret (pv 4))))))), ?_⟩
    refine ⟨_, rfl, _, rfl, _, rfl, Nat.zero_le _, fun o no => ?_⟩
    refine ⟨_, rfl, _, rfl, by omega, by omega, for_range (lo := 0) (n := m) (fun i σ H' => ∃ (rest span : Int) (x5 x6 : Option V) (ns : List Int), σ = [some (.int c), some (.int (m : Int)), some (.int rest), some (.int span), some (.ref o), x5, x6] ∧ Same H H' ∧ H' o = some (.lst (ns.map V.int)) ∧ ns.length = i ∧ ∀ n ∈ ns, 0 ≤ n ∧ n < 1000)
      ⟨_, _, _, _, [], rfl, same_upd no, upd_same, rfl, fun n h => nomatch h⟩ (fun i σ H' hi ⟨rest, span, x5, x6, ns, hσ, hs, ho, hl, hb⟩ => ?_) (fun σ H' ⟨rest, span, x5, x6, ns, hσ, hs, ho, hl, hb⟩ => ?_)⟩
    · subst hσ
      have sz : (ns.map V.int).length < sizeLine := by
        rw [List.length_map]
        exact small1000 (by omega)
      have app : ∀ r : Int, 0 ≤ r → r < 1000 → (upd H' o (.lst (ns.map V.int ++ [V.int r]))) o = some (.lst ((ns ++ [r]).map V.int)) ∧ (ns ++ [r]).length = i + 1 ∧ ∀ n ∈ ns ++ [r], 0 ≤ n ∧ n < 1000 := fun r h0 h1 => by
        refine ⟨by rw [upd_same, List.map_append]; rfl, by rw [List.length_append, hl]; rfl, fun n hn => ?_⟩
        rcases List.mem_append.mp hn with hn | hn
        · exact hb n hn
        · rw [List.mem_singleton.mp hn]
          exact ⟨h0, h1⟩
      refine ⟨_, rfl, _, _, rfl, rfl, ⟨by decide, by decide, by decide⟩, _, _, rfl, rfl, _, rfl, ?_⟩
      have tl : ∀ (D : Ends) (rest' : Int) (x5' x6' : Option V) (r : Int), 0 ≤ r → r < 1000 → (∀ σ' H2, (∃ (rest span : Int) (x5 x6 : Option V) (ns : List Int), σ' = [some (.int c), some (.int (m : Int)), some (.int rest), some (.int span), some (.ref o), x5, x6] ∧ Same H H2 ∧ H2 o = some (.lst (ns.map V.int)) ∧ ns.length = i + 1 ∧ ∀ n ∈ ns, 0 ≤ n ∧ n < 1000) → D.nx σ' H2) → D.nx [some (.int c), some (.int (m : Int)), some (.int rest'), some (.int span), some (.ref o), x5', x6'] (upd H' o (.lst (ns.map V.int ++ [V.int r]))) := fun D rest' x5' x6' r h0 h1 k => by
        obtain ⟨a1, a2, a3⟩ := app r h0 h1
        exact k _ _ ⟨rest', span, x5', x6', _, rfl, same_mut hs no, a1, a2, a3⟩
      have m1 : ∀ z : Int, 0 ≤ z % 1000 ∧ z % 1000 < 1000 := fun z => by omega
      have m2 : ∀ z : Int, 0 ≤ z % 2147483647 ∧ z % 2147483647 < 2147483647 := fun z => by omega
      refine ite2 (fun e => ?_) (fun e => ?_)
      · refine ⟨_, rfl, _, _, rfl, rfl, _, rfl, ite2 (fun e => ?_) (fun e => ?_)⟩
        · refine ⟨_, rfl, .inl ⟨rfl, _, SqL.of ho⟩, _, rfl, .inl ⟨_, rfl, _, _, rfl, rfl, by show (0 : Int) < 1000; decide, _, _, _, rfl, rfl, ho, sz, ?_⟩⟩
          refine ⟨_, rfl, _, _, rfl, rfl, ⟨by decide, by decide⟩, ?_⟩
          obtain ⟨a1, a2, a3⟩ := app (rest % 1000) (m1 _).1 (m1 _).2
          exact ⟨_, _, _, _, _, rfl, same_mut hs no, a1, a2, a3⟩
        · refine ⟨_, rfl, _, _, rfl, rfl, .inr ⟨by decide, by decide⟩, _, rfl, _, _, rfl, rfl, .inr ⟨by decide, by decide⟩, _, _, rfl, rfl, _, _, rfl, rfl, .inl ⟨_, rfl, _, _, rfl, rfl, by show (0 : Int) < 2147483647; decide, ?_⟩⟩
          refine ⟨_, rfl, _, rfl, _, _, rfl, rfl, .inl ?_, _, rfl, _, _, rfl, rfl, .inl ⟨by decide, by decide⟩, _, _, rfl, rfl, _, _, rfl, rfl, .inl ⟨_, rfl, _, _, rfl, rfl, by show (0 : Int) < 2147483629; decide, ?_⟩⟩
          · have h := m2 (span * 48271 + (0 + (i : Int)) * 69621 + 11)
            omega
          refine ⟨_, rfl, .inl ⟨rfl, _, SqL.of ho⟩, _, rfl, _, _, rfl, rfl, ⟨by decide, by decide⟩, .inl ⟨_, rfl, _, _, rfl, rfl, by show (0 : Int) < 1000; decide, _, _, _, rfl, rfl, ho, sz, ?_⟩⟩
          obtain ⟨a1, a2, a3⟩ := app _ (m1 _).1 (m1 _).2
          exact ⟨_, _, _, _, _, rfl, same_mut hs no, a1, a2, a3⟩
      · refine iteF ?_
        refine ⟨_, rfl, _, _, rfl, rfl, .inr ⟨by decide, by decide⟩, _, rfl, _, _, rfl, rfl, .inr ⟨by decide, by decide⟩, _, _, rfl, rfl, _, _, rfl, rfl, .inl ⟨_, rfl, _, _, rfl, rfl, by show (0 : Int) < 2147483647; decide, ?_⟩⟩
        refine ⟨_, rfl, _, rfl, _, _, rfl, rfl, .inl ?_, _, rfl, _, _, rfl, rfl, .inl ⟨by decide, by decide⟩, _, _, rfl, rfl, _, _, rfl, rfl, .inl ⟨_, rfl, _, _, rfl, rfl, by show (0 : Int) < 2147483629; decide, ?_⟩⟩
        · have h := m2 (span * 48271 + (0 + (i : Int)) * 69621 + 11)
          omega
        refine ⟨_, rfl, .inl ⟨rfl, _, SqL.of ho⟩, _, rfl, _, _, rfl, rfl, ⟨by decide, by decide⟩, .inl ⟨_, rfl, _, _, rfl, rfl, by show (0 : Int) < 1000; decide, _, _, _, rfl, rfl, ho, sz, ?_⟩⟩
        obtain ⟨a1, a2, a3⟩ := app _ (m1 _).1 (m1 _).2
        exact ⟨_, _, _, _, _, rfl, same_mut hs no, a1, a2, a3⟩
    · subst hσ
      exact ⟨_, rfl, q _ _ ns hs no ho hl hb⟩
def spLawState (K : PySem.W.Frag) : Sp := fun vs H Q _ => ∃ (l : Addr) (ns : List Int), vs = [.ref l] ∧ SqL K H l (ns.map V.int) ∧ ∀ H' p a, Same H H' → Dw H' p a 0 → Q (.ref p) H'
theorem okLawState (T : Txt K mg fa fd) : FnOk P w K mg base CX0 2 (fa 13) (fd 13) ["script"] (spLawState K) := by
  refine T.F__law_state.ok scLawState (fun vs H Q E h => ?_) (fun cdv A outer s H vs Q E hr h => ?_)
  · obtain ⟨l, ns, rfl, hS, q⟩ := h
    rfl
  · obtain ⟨l, ns, rfl, hS, q⟩ := h
    refine ⟨_, (pss_cons (ps_set (i := 1) scLawState.nd rfl (Or.inl rfl) (pe_lst pa_nil))
      (pss_cons (ps_for PassesOwn.never rfl (pi_range1 (by rfl) T.m_range (pa_cons pe_int pa_nil)) (pg_name (i := 2) scLawState.nd rfl (Or.inl rfl))
      (pss_one (ps_set (i := 1) scLawState.nd rfl (Or.inl rfl) (pe_op op_cat (pv 1) (pe_call (sp := spLawNumbers K) (okLawNumbers T) hr (by rfl) T.G__law_numbers T.F__law_numbers.kp T.B__law_numbers .nil pass0 (pa_cons (pe_op op_add (pe_callB (absQ K) (by rfl) T.m_abs (by decide +kernel) (pa_cons (pe_call (sp := spLawCell K) (okLawCell T) hr (by rfl) T.G__law_cell T.F__law_cell.kp T.B__law_cell .nil pass0 (pa_cons (pv 0) (pa_cons (pv 2) pa_nil))) pa_nil)) (pe_op op_mul pe_int (pv 2))) (pa_cons pe_int pa_nil)))))))
      (pss_one (ps_ret (pe_lst (pa_cons (pv 1) (pa_cons pe_int pa_nil))))))), ?_⟩
    refine ⟨Nat.zero_le _, fun o no => ?_⟩
    refine ⟨3, rfl, by decide, by decide, for_range (lo := 0) (n := 3) (fun i σ H' => ∃ (o : Addr) (x2 : Option V) (ms : List Int), σ = [some (.ref l), some (.ref o), x2] ∧ Same H H' ∧ H' o = some (.lst (ms.map V.int)) ∧ ms.length = 40 * i ∧ ∀ n ∈ ms, 0 ≤ n ∧ n < 1000)
      ⟨o, none, [], rfl, same_upd no, upd_same, rfl, fun n h => nomatch h⟩ (fun i σ H' hi ⟨o, x2, ms, hσ, hs, ho, hl, hb⟩ => ?_) (fun σ H' ⟨o, x2, ms, hσ, hs, ho, hl, hb⟩ => ?_)⟩
    · subst hσ
      refine ⟨_, rfl, _, rfl, _, rfl, l, ns, i, ?_, hs.seq hS, fun v => ⟨_, rfl, _, rfl, _, _, rfl, rfl, .inl ⟨by decide, by decide⟩, _, _, rfl, rfl, _, 40, rfl, by decide, fun H2 u ks s2 nu hu kl kb => ?_⟩⟩
      · exact congrArg (fun t : Int => [V.ref l, V.int t]) (Int.zero_add _)
      refine ⟨_, _, _, _, rfl, rfl, s2 _ _ ho, hu, ?_, fun w nw => ?_⟩
      · rw [List.length_map, List.length_map]
        exact small200 (by omega)
      refine ⟨w, _, ms ++ ks, rfl, (hs.trans s2).trans (same_upd nw), ?_, ?_, fun n hn => ?_⟩
      · rw [upd_same, List.map_append]
      · rw [List.length_append]
        omega
      · rcases List.mem_append.mp hn with hn | hn
        · exact hb n hn
        · exact kb n hn
    · subst hσ
      refine ⟨_, rfl, by show 2 ≤ sizeLine; decide, fun p np => ?_⟩
      refine q _ p o (hs.trans (same_upd np)) ⟨0, ms, Nat.le_refl 0, ne_of_none ho np, upd_same, ?_, hl, hb⟩
      rw [upd_ne (ne_of_none ho np)]
      exact ho
def spLawNext (_ : PySem.W.Frag) : Sp := fun vs H Q _ => ∃ (p a : Addr) (many : Int) (N : Nat), vs = [.ref p, .int many] ∧ Dw H p a N ∧ N < 1000000000 ∧ 0 < many ∧
  ∀ r H', 0 ≤ r → r < many → Dw H' p a (N + 1) → (∀ b, b ≠ p → H' b = H b) → Q (.int r) H'
theorem uLawNext {K : PySem.W.Frag} {H : Hp} {Q : VK} {E : XK} {vs : List V} {p a : Addr} {N : Nat} {many : Int} (e : vs = [.ref p, .int many]) (d : Dw H p a N) (hN : N < 1000000000) (hm : 0 < many) (q : ∀ r H', 0 ≤ r → r < many → Dw H' p a (N + 1) → Kp p H H' → Q (.int r) H') : spLawNext K vs H Q E :=
  ⟨p, a, many, N, e, d, hN, hm, fun r H' h0 h1 d' f => q r H' h0 h1 d' (frm_kp f)⟩
theorem okLawNext (T : Txt K mg fa fd) : FnOk P w K mg base CX0 1 (fa 14) (fd 14) ["state", "many"] (spLawNext K) := by
  refine T.F__law_next.ok scLawNext (fun vs H Q E h => ?_) (fun cdv A outer s H vs Q E hr h => ?_)
  · obtain ⟨p, a, many, N, rfl, ⟨m, ns, hm, hap, hp, ha, hl, hb⟩, hN, hmany, q⟩ := h
    rfl
  · obtain ⟨p, a, many, N, rfl, ⟨m, ns, hm, hap, hp, ha, hl, hb⟩, hN, hmany, q⟩ := h
    refine ⟨_, (pss_cons (ps_asg (pe_op op_add (pe_ix (ixL K) (pv 0) pe_int (fun _ _ => rfl)) pe_int) (pg_sub (pv 0) pe_int set_list))
      (pss_cons (ps_set (i := 2) scLawNext.nd rfl (Or.inl rfl) (pe_op op_add (pe_ix (ixL K) (pe_ix (ixL K) (pv 0) pe_int (fun _ _ => rfl)) (pe_op op_mod (pe_callTy (intQ K) (by rfl) T.m_int (by decide +kernel) (pa_cons (pe_op op_mul (pe_ix (ixL K) (pv 0) pe_int (fun _ _ => rfl)) pe_int) pa_nil)) (pe_callB (lenQ K) (by rfl) T.m_len (by decide +kernel) (pa_cons (pe_ix (ixL K) (pv 0) pe_int (fun _ _ => rfl)) pa_nil))) (fun _ _ => rfl)) (pe_op op_mul (pe_op op_mul pe_int (pe_ix (ixL K) (pv 0) pe_int (fun _ _ => rfl))) (pe_op op_add pe_int (pe_op op_fdiv (pe_ix (ixL K) (pv 0) pe_int (fun _ _ => rfl)) (pe_callB (lenQ K) (by rfl) T.m_len (by decide +kernel) (pa_cons (pe_ix (ixL K) (pv 0) pe_int (fun _ _ => rfl)) pa_nil)))))))
      (pss_one (ps_ret (pe_op op_mod (pe_callTy (intQ K) (by rfl) T.m_int (by decide +kernel) (pa_cons (pv 2) pa_nil)) (pv 1)))))), ?_⟩
    have eS : SqL K H p [.ref a, .int (m : Int)] := SqL.of hp
    refine ⟨_, rfl, _, _, _, _, rfl, rfl, eS, atI_nat (j := 1) rfl, _, _, rfl, rfl, _, rfl, _, _, _, 1, rfl, rfl, hp, rfl, ?_⟩
    have h1p : (upd H p (.lst [.ref a, .int ((m : Int) + 1)])) p = some (.lst [.ref a, .int ((m : Int) + 1)]) := upd_same
    have h1a : (upd H p (.lst [.ref a, .int ((m : Int) + 1)])) a = some (.lst (ns.map V.int)) := by
      rw [upd_ne hap]
      exact ha
    have fr : ∀ b, b ≠ p → (upd H p (.lst [.ref a, .int ((m : Int) + 1)])) b = H b := fun b hb => upd_ne hb
    show tSeq _ _ _ _ (upd H p (.lst [.ref a, .int ((m : Int) + 1)]))
    generalize upd H p (.lst [.ref a, .int ((m : Int) + 1)]) = H1 at h1p h1a fr
    have S1 : SqL K H1 p [.ref a, .int ((m : Int) + 1)] := SqL.of h1p
    have A1 : SqL K H1 a (ns.map V.int) := SqL.of h1a
    have hl2 : ((ns.map V.int).length : Int) = 120 := by
      rw [List.length_map, hl]
      rfl
    obtain ⟨x, hx, ex⟩ := at_int (ns := ns) (r := ((m : Int) + 1) * 7 % 120) (by omega) (by omega)
    refine ⟨_, rfl, _, _, _, _, rfl, rfl, S1, atI_nat (j := 0) rfl, _, rfl, _, _, _, _, rfl, rfl, S1, atI_nat (j := 1) rfl, _, _, rfl, rfl, .inr ⟨by decide, by decide⟩, .inl ⟨_, rfl, _, rfl, _, _, _, _, rfl, rfl, S1, atI_nat (j := 0) rfl, _, _, rfl, .inl A1, ?_⟩⟩
    rw [hl2]
    refine ⟨_, _, rfl, rfl, by show (0 : Int) < 120; decide, _, _, _, _, rfl, rfl, A1, ex, ?_⟩
    refine ⟨_, rfl, _, _, _, _, rfl, rfl, S1, atI_nat (j := 1) rfl, _, _, rfl, rfl, .inl ⟨by decide, by decide⟩, _, rfl, _, _, _, _, rfl, rfl, S1, atI_nat (j := 1) rfl, _, rfl, _, _, _, _, rfl, rfl, S1, atI_nat (j := 0) rfl, _, _, rfl, .inl A1, ?_⟩
    rw [hl2]
    refine ⟨_, _, rfl, rfl, ⟨by decide, by decide⟩, _, _, rfl, rfl, _, _, rfl, rfl, .inl ⟨by omega, by omega⟩, _, _, rfl, rfl, ?_⟩
    refine ⟨_, rfl, .inl ⟨_, rfl, _, rfl, _, _, rfl, rfl, hmany, ?_⟩⟩
    exact q _ _ (Int.emod_nonneg _ (by omega)) (Int.emod_lt_of_pos _ hmany) ⟨m + 1, ns, by omega, hap, h1p, h1a, hl, hb⟩ fr
def spLawRoot (_ : PySem.W.Frag) : Sp := fun vs H Q _ => ∃ n : Int, vs = [.int n] ∧ 0 ≤ n ∧ n < 2 ^ 60 ∧ Q (.int (rootI n)) H
theorem okLawRoot (T : Txt K mg fa fd) : FnOk P w K mg base CX0 1 (fa 15) (fd 15) ["n"] (spLawRoot K) := by
  refine T.F__law_root.ok scLawRoot (fun vs H Q E h => ?_) (fun cdv A outer s H vs Q E hr h => ?_)
  · obtain ⟨n, rfl, h0, h1, q⟩ := h
    rfl
  · obtain ⟨n, rfl, h0, h1, q⟩ := h
    refine ⟨_, (pss_cons (ps_set (i := 1) scLawRoot.nd rfl (Or.inl rfl) pe_int)
      (pss_cons (ps_set (i := 2) scLawRoot.nd rfl (Or.inl rfl) (pe_op op_add (pv 0) pe_int))
      (pss_cons (ps_for PassesOwn.never rfl (pi_range1 (by rfl) T.m_range (pa_cons pe_int pa_nil)) (pg_name (i := 3) scLawRoot.nd rfl (Or.inl rfl))
      (pss_cons (ps_if (pt_cmp (pc_le (pe_op op_sub (pv 2) (pv 1)) pe_int))
        (pss_one (ps_ret (pv 1)))
        pss_nil)
        (pss_cons (ps_set (i := 4) scLawRoot.nd rfl (Or.inl rfl) (pe_op op_fdiv (pe_op op_add (pv 1) (pv 2)) pe_int))
        (pss_one (ps_if (pt_cmp (pc_le (pe_op op_mul (pv 4) (pv 4)) (pv 0)))
        (pss_one (ps_set (i := 1) scLawRoot.nd rfl (Or.inl rfl) (pv 4)))
        (pss_one (ps_set (i := 2) scLawRoot.nd rfl (Or.inl rfl) (pv 4))))))))
      (pss_one (ps_ret (pv 1)))))), ?_⟩
    have h1' : n < 1152921504606846976 := h1
    refine ⟨_, rfl, _, _, rfl, rfl, 2000, rfl, by decide, by decide, ?_⟩
    refine for_range (lo := 0) (n := 2000) (fun i σ H' => ∃ (low high : Int) (x3 x4 : Option V), σ = [some (.int n), some (.int low), some (.int high), x3, x4] ∧ H' = H ∧ 0 ≤ low ∧ low < high ∧ high ≤ n + 1 ∧ low * low ≤ n ∧ n < high * high ∧ (high - low - 1) * 2 ^ i ≤ n)
      ⟨0, n + 1, none, none, rfl, rfl, by omega, by omega, by omega, by omega, ?_, by simp⟩ (fun i σ H' hi ⟨low, high, x3, x4, hσ, e, z0, z1, z2, z3, z4, z5⟩ => ?_) (fun σ H' ⟨low, high, x3, x4, hσ, e, z0, z1, z2, z3, z4, z5⟩ => ?_)
    · have a : (n + 1) * 1 ≤ (n + 1) * (n + 1) := Int.mul_le_mul_of_nonneg_left (by omega) (by omega)
      omega
    · subst hσ e
      refine ⟨_, rfl, _, rfl, _, _, rfl, rfl, _, _, rfl, rfl, _, rfl, way2 (fun h => ?_) (fun h => ?_)⟩
      · have eh : high = low + 1 := by omega
        subst eh
        refine ⟨_, rfl, ?_⟩
        rw [← rootI_uniq h0 z0 z3 z4] at q
        exact q
      · obtain ⟨k1, k2, k3, k4⟩ := half_step (by omega) z5
        refine ⟨_, rfl, _, rfl, _, _, rfl, rfl, _, _, rfl, rfl, ⟨by decide, by decide⟩, ?_⟩
        refine ⟨_, rfl, _, rfl, _, _, rfl, rfl, .inl ⟨by omega, by omega⟩, _, rfl, _, _, rfl, rfl, _, rfl, way2 (fun h => ?_) (fun h => ?_)⟩
        · exact ⟨_, rfl, (low + high) / 2, high, _, _, rfl, rfl, by omega, k4, z2, h, z4, k2⟩
        · exact ⟨_, rfl, low, (low + high) / 2, _, _, rfl, rfl, z0, k3, by omega, z3, by omega, k1⟩
    · subst hσ e
      have eh : high = low + 1 := by
        by_cases z : high - low - 1 ≤ 0
        · omega
        · have p0 : (2 : Int) ^ 60 ≤ 2 ^ 2000 := by
            have e1 : ((2 ^ 60 : Nat) : Int) = 2 ^ 60 := Int.natCast_pow 2 60
            have e2 : ((2 ^ 2000 : Nat) : Int) = 2 ^ 2000 := Int.natCast_pow 2 2000
            have e3 := Nat.pow_le_pow_right (n := 2) (by decide) (show 60 ≤ 2000 by decide)
            omega
          have a : 1 * 2 ^ 2000 ≤ (high - low - 1) * 2 ^ 2000 := Int.mul_le_mul_of_nonneg_right (by omega) (Int.le_trans (by decide) p0)
          omega
      subst eh
      refine ⟨_, rfl, ?_⟩
      rw [← rootI_uniq h0 z0 z3 z4] at q
      exact q
def spLawMul (K : PySem.W.Frag) : Sp := fun vs H Q _ => ∃ (am an : Addr) (p q r s p2 q2 r2 s2 : Int) (N : Nat), vs = [.ref am, .ref an] ∧ SqT K H am [.int p, .int q, .int r, .int s] ∧ SqT K H an [.int p2, .int q2, .int r2, .int s2] ∧ Bd N p ∧ Bd N q ∧ Bd N r ∧ Bd N s ∧ Bd N p2 ∧ Bd N q2 ∧ Bd N r2 ∧ Bd N s2 ∧ N ≤ 400000 ∧ (R.Nw H [.int (p * p2 + q * r2), .int (p * q2 + q * s2), .int (r * p2 + s * r2), .int (r * q2 + s * s2)] Q)
theorem uLawMul {K : PySem.W.Frag} {H : Hp} {Q : VK} {E : XK} {vs : List V} {am an : Addr} {p q r s p2 q2 r2 s2 : Int} {n0 n1 n2 n3 n4 n5 n6 n7 : Nat} (hev : vs = [.ref am, .ref an]) (s0 : SqT K H am [.int p, .int q, .int r, .int s]) (s1 : SqT K H an [.int p2, .int q2, .int r2, .int s2]) (b0 : Bd n0 p) (b1 : Bd n1 q) (b2 : Bd n2 r) (b3 : Bd n3 s) (b4 : Bd n4 p2) (b5 : Bd n5 q2) (b6 : Bd n6 r2) (b7 : Bd n7 s2) (hll : (n0 + n1 + n2 + n3 + n4 + n5 + n6 + n7 ≤ 400000) = True) (kk : R.Nw H [.int (p * p2 + q * r2), .int (p * q2 + q * s2), .int (r * p2 + s * r2), .int (r * q2 + s * s2)] Q) : spLawMul K vs H Q E :=
  have hll := of_eq_true hll
  ⟨am, an, p, q, r, s, p2, q2, r2, s2, n0 + n1 + n2 + n3 + n4 + n5 + n6 + n7, hev, s0, s1, b0.mono (by omega), b1.mono (by omega), b2.mono (by omega), b3.mono (by omega), b4.mono (by omega), b5.mono (by omega), b6.mono (by omega), b7.mono (by omega), hll, kk⟩
theorem okLawMul (T : Txt K mg fa fd) : FnOk P w K mg base CX0 1 (fa 16) (fd 16) ["m", "n"] (spLawMul K) := by
  refine T.F__law_mul.ok scLawMul (fun vs H Q E h => ?_) (fun cdv A outer s H vs Q E hr h => ?_)
  · obtain ⟨am, an, p, q, r, s, p2, q2, r2, s2, N, rfl, h_am, h_an, b_p, b_q, b_r, b_s, b_p2, b_q2, b_r2, b_s2, hN, kk⟩ := h
    rfl
  · obtain ⟨am, an, p, q, r, s, p2, q2, r2, s2, N, rfl, h_am, h_an, b_p, b_q, b_r, b_s, b_p2, b_q2, b_r2, b_s2, hN, kk⟩ := h
    refine ⟨_, (pss_cons (ps_set (i := 2) scLawMul.nd rfl (Or.inl rfl) (pe_lst (pa_cons (pe_op op_add (pe_op op_mulW (pe_ix (ixT K) (pv 0) pe_int (fun _ _ => rfl)) (pe_ix (ixT K) (pv 1) pe_int (fun _ _ => rfl))) (pe_op op_mulW (pe_ix (ixT K) (pv 0) pe_int (fun _ _ => rfl)) (pe_ix (ixT K) (pv 1) pe_int (fun _ _ => rfl)))) (pa_cons (pe_op op_add (pe_op op_mulW (pe_ix (ixT K) (pv 0) pe_int (fun _ _ => rfl)) (pe_ix (ixT K) (pv 1) pe_int (fun _ _ => rfl))) (pe_op op_mulW (pe_ix (ixT K) (pv 0) pe_int (fun _ _ => rfl)) (pe_ix (ixT K) (pv 1) pe_int (fun _ _ => rfl)))) pa_nil))))
      (pss_one (ps_ret (pe_callTy (tupQ K) (by rfl) T.m_tuple (by decide +kernel) (pa_cons (pe_op op_cat (pv 2) (pe_lst (pa_cons (pe_op op_add (pe_op op_mulW (pe_ix (ixT K) (pv 0) pe_int (fun _ _ => rfl)) (pe_ix (ixT K) (pv 1) pe_int (fun _ _ => rfl))) (pe_op op_mulW (pe_ix (ixT K) (pv 0) pe_int (fun _ _ => rfl)) (pe_ix (ixT K) (pv 1) pe_int (fun _ _ => rfl)))) (pa_cons (pe_op op_add (pe_op op_mulW (pe_ix (ixT K) (pv 0) pe_int (fun _ _ => rfl)) (pe_ix (ixT K) (pv 1) pe_int (fun _ _ => rfl))) (pe_op op_mulW (pe_ix (ixT K) (pv 0) pe_int (fun _ _ => rfl)) (pe_ix (ixT K) (pv 1) pe_int (fun _ _ => rfl)))) pa_nil)))) pa_nil))))), ?_⟩
    clean_wf
    all_goals first | omega | exact kk | (refine kk _ _ ?_ (by assumption); (repeat' (first | with_reducible exact Same.refl _ | with_reducible assumption | ((with_reducible apply sameB); with_reducible assumption))))
def spLawWorth (K : PySem.W.Frag) : Sp := fun vs H Q _ => ∃ (aform : Addr) (a b c x y : Int) (N : Nat), vs = [.ref aform, .int x, .int y] ∧ SqT K H aform [.int a, .int b, .int c] ∧ Bd N a ∧ Bd N b ∧ Bd N c ∧ Bd N x ∧ Bd N y ∧ N ≤ 300000 ∧ (Q (.int (a * x * x + b * x * y + c * y * y)) H)
theorem uLawWorth {K : PySem.W.Frag} {H : Hp} {Q : VK} {E : XK} {vs : List V} {aform : Addr} {a b c x y : Int} {n0 n1 n2 n3 n4 : Nat} (hev : vs = [.ref aform, .int x, .int y]) (s0 : SqT K H aform [.int a, .int b, .int c]) (b0 : Bd n0 a) (b1 : Bd n1 b) (b2 : Bd n2 c) (b3 : Bd n3 x) (b4 : Bd n4 y) (hll : (n0 + n1 + n2 + n3 + n4 ≤ 300000) = True) (kk : Q (.int (a * x * x + b * x * y + c * y * y)) H) : spLawWorth K vs H Q E :=
  have hll := of_eq_true hll
  ⟨aform, a, b, c, x, y, n0 + n1 + n2 + n3 + n4, hev, s0, b0.mono (by omega), b1.mono (by omega), b2.mono (by omega), b3.mono (by omega), b4.mono (by omega), hll, kk⟩
theorem okLawWorth (T : Txt K mg fa fd) : FnOk P w K mg base CX0 1 (fa 17) (fd 17) ["form", "x", "y"] (spLawWorth K) := by
  refine T.F__law_worth.ok scLawWorth (fun vs H Q E h => ?_) (fun cdv A outer s H vs Q E hr h => ?_)
  · obtain ⟨aform, a, b, c, x, y, N, rfl, h_aform, b_a, b_b, b_c, b_x, b_y, hN, kk⟩ := h
    rfl
  · obtain ⟨aform, a, b, c, x, y, N, rfl, h_aform, b_a, b_b, b_c, b_x, b_y, hN, kk⟩ := h
    refine ⟨_, (pss_one (ps_ret (pe_op op_add (pe_op op_add (pe_op op_mulW (pe_op op_mulW (pe_ix (ixT K) (pv 0) pe_int (fun _ _ => rfl)) (pv 1)) (pv 1)) (pe_op op_mulW (pe_op op_mulW (pe_ix (ixT K) (pv 0) pe_int (fun _ _ => rfl)) (pv 1)) (pv 2))) (pe_op op_mulW (pe_op op_mulW (pe_ix (ixT K) (pv 0) pe_int (fun _ _ => rfl)) (pv 2)) (pv 2))))), ?_⟩
    clean_wf
    all_goals first | omega | exact kk | (refine kk _ _ ?_ (by assumption); (repeat' (first | with_reducible exact Same.refl _ | with_reducible assumption | ((with_reducible apply sameB); with_reducible assumption))))
def spLawAct (K : PySem.W.Frag) : Sp := fun vs H Q _ => ∃ (aform am : Addr) (a b c p q r s : Int) (N : Nat), vs = [.ref aform, .ref am] ∧ SqT K H aform [.int a, .int b, .int c] ∧ SqT K H am [.int p, .int q, .int r, .int s] ∧ Bd N a ∧ Bd N b ∧ Bd N c ∧ Bd N p ∧ Bd N q ∧ Bd N r ∧ Bd N s ∧ N ≤ 59000 ∧ (R.Nw H [.int (a * p * p + b * p * r + c * r * r), .int (2 * a * p * q + b * (p * s + q * r) + 2 * c * r * s), .int (a * q * q + b * q * s + c * s * s)] Q)
theorem uLawAct {K : PySem.W.Frag} {H : Hp} {Q : VK} {E : XK} {vs : List V} {aform am : Addr} {a b c p q r s : Int} {n0 n1 n2 n3 n4 n5 n6 : Nat} (hev : vs = [.ref aform, .ref am]) (s0 : SqT K H aform [.int a, .int b, .int c]) (s1 : SqT K H am [.int p, .int q, .int r, .int s]) (b0 : Bd n0 a) (b1 : Bd n1 b) (b2 : Bd n2 c) (b3 : Bd n3 p) (b4 : Bd n4 q) (b5 : Bd n5 r) (b6 : Bd n6 s) (hll : (n0 + n1 + n2 + n3 + n4 + n5 + n6 ≤ 59000) = True) (kk : R.Nw H [.int (a * p * p + b * p * r + c * r * r), .int (2 * a * p * q + b * (p * s + q * r) + 2 * c * r * s), .int (a * q * q + b * q * s + c * s * s)] Q) : spLawAct K vs H Q E :=
  have hll := of_eq_true hll
  ⟨aform, am, a, b, c, p, q, r, s, n0 + n1 + n2 + n3 + n4 + n5 + n6, hev, s0, s1, b0.mono (by omega), b1.mono (by omega), b2.mono (by omega), b3.mono (by omega), b4.mono (by omega), b5.mono (by omega), b6.mono (by omega), hll, kk⟩
theorem okLawAct (T : Txt K mg fa fd) : FnOk P w K mg base CX0 2 (fa 18) (fd 18) ["form", "m"] (spLawAct K) := by
  refine T.F__law_act.ok scLawAct (fun vs H Q E h => ?_) (fun cdv A outer s H vs Q E hr h => ?_)
  · obtain ⟨aform, am, a, b, c, p, q, r, s, N, rfl, h_aform, h_am, b_a, b_b, b_c, b_p, b_q, b_r, b_s, hN, kk⟩ := h
    rfl
  · obtain ⟨aform, am, a, b, c, p, q, r, s, N, rfl, h_aform, h_am, b_a, b_b, b_c, b_p, b_q, b_r, b_s, hN, kk⟩ := h
    refine ⟨_, (pss_cons (ps_set (i := 2) scLawAct.nd rfl (Or.inl rfl) (pe_call (sp := spLawWorth K) (okLawWorth T) hr (by rfl) T.G__law_worth T.F__law_worth.kp T.B__law_worth .nil pass0 (pa_cons (pv 0) (pa_cons (pe_ix (ixT K) (pv 1) pe_int (fun _ _ => rfl)) (pa_cons (pe_ix (ixT K) (pv 1) pe_int (fun _ _ => rfl)) pa_nil)))))
      (pss_cons (ps_set (i := 3) scLawAct.nd rfl (Or.inl rfl) (pe_call (sp := spLawWorth K) (okLawWorth T) hr (by rfl) T.G__law_worth T.F__law_worth.kp T.B__law_worth .nil pass0 (pa_cons (pv 0) (pa_cons (pe_ix (ixT K) (pv 1) pe_int (fun _ _ => rfl)) (pa_cons (pe_ix (ixT K) (pv 1) pe_int (fun _ _ => rfl)) pa_nil)))))
      (pss_one (ps_ret (pe_tup (pa_cons (pv 2) (pa_cons (pe_op op_sub (pe_op op_sub (pe_call (sp := spLawWorth K) (okLawWorth T) hr (by rfl) T.G__law_worth T.F__law_worth.kp T.B__law_worth .nil pass0 (pa_cons (pv 0) (pa_cons (pe_op op_add (pe_ix (ixT K) (pv 1) pe_int (fun _ _ => rfl)) (pe_ix (ixT K) (pv 1) pe_int (fun _ _ => rfl))) (pa_cons (pe_op op_add (pe_ix (ixT K) (pv 1) pe_int (fun _ _ => rfl)) (pe_ix (ixT K) (pv 1) pe_int (fun _ _ => rfl))) pa_nil)))) (pv 2)) (pv 3)) (pa_cons (pv 3) pa_nil)))))))), ?_⟩
    rw [← act_mid] at kk
    clean_wf
    all_goals first | omega | exact kk | (refine kk _ _ ?_ (by assumption); (repeat' (first | with_reducible exact Same.refl _ | with_reducible assumption | ((with_reducible apply sameB); with_reducible assumption))))
def Lc4 (i : Nat) (m1 m2 m3 m4 : Int) : Prop := m1 * m4 - m2 * m3 = 1 ∧ m1.natAbs ≤ 3 ^ i ∧ m2.natAbs ≤ 3 ^ i ∧ m3.natAbs ≤ 3 ^ i ∧ m4.natAbs ≤ 3 ^ i
def spLawChange (K : PySem.W.Frag) : Sp := fun vs H Q _ => ∃ (p a : Addr) (N : Nat) (many : Int), vs = [.ref p, .int many] ∧ Dw H p a N ∧ N < 100000 ∧ 0 ≤ many ∧ many ≤ 10 ∧
  ∀ H' t m1 m2 m3 m4, Dw H' p a (N + 31) → Kp p H H' → SqT K H' t [.int m1, .int m2, .int m3, .int m4] → Lc4 many.toNat m1 m2 m3 m4 → Q (.ref t) H'
theorem uLawChange {K : PySem.W.Frag} {H : Hp} {Q : VK} {E : XK} {vs : List V} {p a : Addr} {N : Nat} {many : Int} (e : vs = [.ref p, .int many]) (d : Dw H p a N) (hN : N < 100000) (h0 : 0 ≤ many) (h1 : many ≤ 10)
    (kk : ∀ H' t m1 m2 m3 m4, Dw H' p a (N + 31) → Kp p H H' → SqT K H' t [.int m1, .int m2, .int m3, .int m4] → Lc4 many.toNat m1 m2 m3 m4 → Q (.ref t) H') : spLawChange K vs H Q E := ⟨p, a, N, many, e, d, hN, h0, h1, kk⟩
theorem Lc4.mono {i j : Nat} {m1 m2 m3 m4 : Int} (h : Lc4 i m1 m2 m3 m4) (l : i ≤ j) : Lc4 j m1 m2 m3 m4 := by
  have e : 3 ^ i ≤ 3 ^ j := Nat.pow_le_pow_right (by decide) l
  obtain ⟨h1, h2, h3, h4, h5⟩ := h
  exact ⟨h1, Nat.le_trans h2 e, Nat.le_trans h3 e, Nat.le_trans h4 e, Nat.le_trans h5 e⟩
theorem Lc4.bd {i : Nat} {m1 m2 m3 m4 : Int} (h : Lc4 i m1 m2 m3 m4) (l : i ≤ 10) : Bd 16 m1 ∧ Bd 16 m2 ∧ Bd 16 m3 ∧ Bd 16 m4 := by
  obtain ⟨h1, h2, h3, h4, h5⟩ := h.mono l
  exact ⟨Bd.of h2 (by decide), Bd.of h3 (by decide), Bd.of h4 (by decide), Bd.of h5 (by decide)⟩
theorem two3 {i : Nat} {m x t : Int} (h1 : m.natAbs ≤ 3 ^ i) (h2 : x.natAbs ≤ 3 ^ i) (t1 : -2 ≤ t) (t2 : t ≤ 2) : (m * t + x).natAbs ≤ 3 ^ (i + 1) := by
  have e : (m * t).natAbs ≤ 3 ^ i * 2 := by
    rw [Int.natAbs_mul]
    exact Nat.mul_le_mul h1 (by omega)
  rw [Nat.pow_succ]
  omega
theorem Lc4.s1 {i : Nat} {m1 m2 m3 m4 t : Int} (h : Lc4 i m1 m2 m3 m4) (t1 : -2 ≤ t) (t2 : t ≤ 2) : Lc4 (i + 1) (m1 * 1 + m2 * 0) (m1 * t + m2 * 1) (m3 * 1 + m4 * 0) (m3 * t + m4 * 1) := by
  have k := h.mono (Nat.le_succ i)
  obtain ⟨h1, h2, h3, h4, h5⟩ := h
  obtain ⟨k1, k2, k3, k4, k5⟩ := k
  rw [Int.mul_one, Int.mul_one, Int.mul_one, Int.mul_one, Int.mul_zero, Int.mul_zero, Int.add_zero, Int.add_zero]
  refine ⟨?_, k2, two3 h2 h3 t1 t2, k4, two3 h4 h5 t1 t2⟩
  grind
theorem Lc4.s2 {i : Nat} {m1 m2 m3 m4 t : Int} (h : Lc4 i m1 m2 m3 m4) (t1 : -2 ≤ t) (t2 : t ≤ 2) : Lc4 (i + 1) (m1 * 1 + m2 * t) (m1 * 0 + m2 * 1) (m3 * 1 + m4 * t) (m3 * 0 + m4 * 1) := by
  have k := h.mono (Nat.le_succ i)
  obtain ⟨h1, h2, h3, h4, h5⟩ := h
  obtain ⟨k1, k2, k3, k4, k5⟩ := k
  rw [Int.mul_one, Int.mul_one, Int.mul_one, Int.mul_one, Int.mul_zero, Int.mul_zero, Int.zero_add, Int.zero_add, Int.add_comm m1, Int.add_comm m3]
  refine ⟨?_, two3 h3 h2 t1 t2, k3, two3 h5 h4 t1 t2, k5⟩
  grind
theorem Lc4.s3 {i : Nat} {m1 m2 m3 m4 : Int} (h : Lc4 i m1 m2 m3 m4) : Lc4 (i + 1) (m1 * 0 + m2 * 1) (m1 * (-1) + m2 * 0) (m3 * 0 + m4 * 1) (m3 * (-1) + m4 * 0) := by
  have k := h.mono (Nat.le_succ i)
  obtain ⟨h1, h2, h3, h4, h5⟩ := h
  obtain ⟨k1, k2, k3, k4, k5⟩ := k
  refine ⟨by grind, by omega, by omega, by omega, by omega⟩
theorem okLawChange (T : Txt K mg fa fd) : FnOk P w K mg base CX0 2 (fa 19) (fd 19) ["state", "many"] (spLawChange K) := by
  refine T.F__law_change.ok scLawChange (fun vs H Q E h => ?_) (fun cdv A outer s H vs Q E hr h => ?_)
  · obtain ⟨p, a, N, many, rfl, d, hN, h0, h10, kk⟩ := h
    rfl
  · obtain ⟨p, a, N, many, rfl, d, hN, h0, h10, kk⟩ := h
    refine ⟨_, (pss_cons (ps_set (i := 2) scLawChange.nd rfl (Or.inl rfl) (pe_tup (pa_cons pe_int (pa_cons pe_int (pa_cons pe_int (pa_cons pe_int pa_nil))))))
      (pss_cons (ps_for PassesOwn.never rfl (pi_range1 (by rfl) T.m_range (pa_cons (pe_call (sp := spLawNext K) (okLawNext T) hr (by rfl) T.G__law_next T.F__law_next.kp T.B__law_next .nil pass0 (pa_cons (pv 0) (pa_cons (pe_op op_add (pv 1) pe_int) pa_nil))) pa_nil)) (pg_name (i := 3) scLawChange.nd rfl (Or.inl rfl))
      (pss_cons (ps_set (i := 4) scLawChange.nd rfl (Or.inl rfl) (pe_op op_sub (pe_call (sp := spLawNext K) (okLawNext T) hr (by rfl) T.G__law_next T.F__law_next.kp T.B__law_next .nil pass0 (pa_cons (pv 0) (pa_cons pe_int pa_nil))) pe_int))
        (pss_one (ps_set (i := 2) scLawChange.nd rfl (Or.inl rfl) (pe_call (sp := spLawMul K) (okLawMul T) hr (by rfl) T.G__law_mul T.F__law_mul.kp T.B__law_mul .nil pass0 (pa_cons (pv 2) (pa_cons (pe_ix (ixL K) (pe_lst (pa_cons (pe_tup (pa_cons pe_int (pa_cons (pv 4) (pa_cons pe_int (pa_cons pe_int pa_nil))))) (pa_cons (pe_tup (pa_cons pe_int (pa_cons pe_int (pa_cons (pv 4) (pa_cons pe_int pa_nil))))) (pa_cons (pe_tup (pa_cons pe_int (pa_cons (pe_un un_neg pe_int) (pa_cons pe_int (pa_cons pe_int pa_nil))))) pa_nil)))) (pe_call (sp := spLawNext K) (okLawNext T) hr (by rfl) T.G__law_next T.F__law_next.kp T.B__law_next .nil pass0 (pa_cons (pv 0) (pa_cons pe_int pa_nil))) (fun _ _ => rfl)) pa_nil)))))))
      (pss_one (ps_ret (pv 2))))), ?_⟩
    clean_wf
    intro r1 H1 r1a r1b d1 k1
    clean_wf
    refine R.forN (lo := 0) (n := r1.toNat) (fun i σ H' => ∃ (b : Addr) (m1 m2 m3 m4 : Int) (x3 x4 : Option V), σ = [some (.ref p), some (.int many), some (.ref b), x3, x4] ∧ Dw H' p a (N + 1 + 2 * i) ∧ Kp p H1 H' ∧ SqT K H' b [.int m1, .int m2, .int m3, .int m4] ∧ Lc4 i m1 m2 m3 m4)
      ?_ (fun i σ H2 hi hPv => ?_) (fun σ H2 hPv => ?_)
    · exact ⟨_, 1, 0, 0, 1, _, _, rfl, d1, Kp.refl, by clean_wf, by decide, by decide, by decide, by decide, by decide⟩
    · obtain ⟨b, m1, m2, m3, m4, x3, x4, rfl, d2, k2, s2, l2⟩ := hPv
      have bd := l2.bd (by omega)
      obtain ⟨b1, b2, b3, b4⟩ := bd
      clean_wf
      intro r2 H3 r2a r2b d3 k3
      clean_wf
      intro r3 H4 r3a r3b d4 k4
      have key : ∀ {σ : L2.St} {t1 t2 t3 t4 : Int} {H5 : Hp} {c : Addr}, σ = [some (.ref p), some (.int many), some (.ref c), some (.int (0 + ↑i)), some (.int (r2 - 2))] → Dw H5 p a (N + 1 + 2 * i + 1 + 1) → Kp p H4 H5 →
          SqT K H5 c [.int (m1 * t1 + m2 * t3), .int (m1 * t2 + m2 * t4), .int (m3 * t1 + m4 * t3), .int (m3 * t2 + m4 * t4)] → Lc4 (i + 1) (m1 * t1 + m2 * t3) (m1 * t2 + m2 * t4) (m3 * t1 + m4 * t3) (m3 * t2 + m4 * t4) →
          ∃ (b : Addr) (m1 m2 m3 m4 : Int) (x3 x4 : Option V), σ = [some (.ref p), some (.int many), some (.ref b), x3, x4] ∧ Dw H5 p a (N + 1 + 2 * (i + 1)) ∧ Kp p H1 H5 ∧ SqT K H5 b [.int m1, .int m2, .int m3, .int m4] ∧ Lc4 (i + 1) m1 m2 m3 m4 :=
        fun e d5 k5 s5 l5 => ⟨_, _, _, _, _, _, _, e, d5, by sizeOf_list_dec, s5, l5⟩
      obtain rfl | rfl | rfl : r3 = 0 ∨ r3 = 1 ∨ r3 = 2 := by omega
      · skip
        clean_wf
        refine key (t1 := 1) (t2 := r2 - 2) (t3 := 0) (t4 := 1) rfl ?_ ?_ ?_ ?_
        · skip
          clean_wf
        · sizeOf_list_dec
        · skip
          clean_wf
        · exact l2.s1 (by omega) (by omega)
      · skip
        clean_wf
        refine key (t1 := 1) (t2 := 0) (t3 := r2 - 2) (t4 := 1) rfl ?_ ?_ ?_ ?_
        · skip
          clean_wf
        · sizeOf_list_dec
        · skip
          clean_wf
        · exact l2.s2 (by omega) (by omega)
      · skip
        clean_wf
        refine key (t1 := 0) (t2 := -1) (t3 := 1) (t4 := 0) rfl ?_ ?_ ?_ ?_
        · skip
          clean_wf
        · sizeOf_list_dec
        · skip
          clean_wf
        · exact l2.s3
    · obtain ⟨b, m1, m2, m3, m4, x3, x4, rfl, d2, k2, s2, l2⟩ := hPv
      clean_wf
      exact kk _ _ _ _ _ _ (d2.mono (by omega)) (by sizeOf_list_dec) s2 (l2.mono (by omega))
def spLawSquare (_ : PySem.W.Frag) : Sp := fun vs H Q _ => ∃ n : Int, vs = [.int n] ∧ 0 ≤ n ∧ n < 1000000000 ∧ Q (.bl (decide (rootI n * rootI n = n))) H
theorem uLawSquare {K : PySem.W.Frag} {H : Hp} {Q : VK} {E : XK} {vs : List V} {n : Int} (e : vs = [.int n]) (h0 : 0 ≤ n) (h1 : n < 1000000000) (kk : Q (.bl (decide (rootI n * rootI n = n))) H) : spLawSquare K vs H Q E := ⟨n, e, h0, h1, kk⟩
theorem uLawRoot {K : PySem.W.Frag} {H : Hp} {Q : VK} {E : XK} {vs : List V} {n : Int} (e : vs = [.int n]) (h0 : 0 ≤ n) (h1 : n < 1000000000000000000) (kk : Q (.int (rootI n)) H) : spLawRoot K vs H Q E := ⟨n, e, h0, by show n < 1152921504606846976; omega, kk⟩
theorem okLawSquare (T : Txt K mg fa fd) : FnOk P w K mg base CX0 2 (fa 20) (fd 20) ["n"] (spLawSquare K) := by
  refine T.F__law_square.ok scLawSquare (fun vs H Q E h => ?_) (fun cdv A outer s H vs Q E hr h => ?_)
  · obtain ⟨n, rfl, h0, h1, kk⟩ := h
    rfl
  · obtain ⟨n, rfl, h0, h1, kk⟩ := h
    refine ⟨_, (pss_one (ps_ret (pe_and (pe_cmp (pc_ge (pv 0) pe_int)) (pe_one (pe_cmp (pc_eqI (pe_op op_mulW (pe_call (sp := spLawRoot K) (okLawRoot T) hr (by rfl) T.G__law_root T.F__law_root.kp T.B__law_root .nil pass0 (pa_cons (pv 0) pa_nil)) (pe_call (sp := spLawRoot K) (okLawRoot T) hr (by rfl) T.G__law_root T.F__law_root.kp T.B__law_root .nil pass0 (pa_cons (pv 0) pa_nil))) (pv 0))))))), ?_⟩
    obtain ⟨r0, r1⟩ := uLawRoot0 h0
    have br : Bd 60 (rootI n) := Bd.om (by omega)
    clean_wf
    refine wayT (by omega) ?_
    clean_wf
def spLawKind (K : PySem.W.Frag) : Sp := fun vs H Q _ => ∃ (af : Addr) (a b c : Int), vs = [.ref af] ∧ SqT K H af [.int a, .int b, .int c] ∧ a.natAbs ≤ 10000 ∧ b.natAbs ≤ 10000 ∧ c.natAbs ≤ 10000 ∧ ∀ H', Same H H' → Q (.str (kindS (dsc a b c))) H'
theorem uLawKind {K : PySem.W.Frag} {H : Hp} {Q : VK} {E : XK} {vs : List V} {af : Addr} {a b c : Int} (e : vs = [.ref af]) (hs : SqT K H af [.int a, .int b, .int c]) (h1 : a.natAbs ≤ 10000) (h2 : b.natAbs ≤ 10000) (h3 : c.natAbs ≤ 10000) (kk : ∀ H', Same H H' → Q (.str (kindS (dsc a b c))) H') : spLawKind K vs H Q E := ⟨af, a, b, c, e, hs, h1, h2, h3, kk⟩
theorem okLawKind (T : Txt K mg fa fd) : FnOk P w K mg base CX0 3 (fa 21) (fd 21) ["form"] (spLawKind K) := by
  refine T.F__law_kind.ok scLawKind (fun vs H Q E h => ?_) (fun cdv A outer s H vs Q E hr h => ?_)
  · obtain ⟨af, a, b, c, rfl, hs, h1, h2, h3, kk⟩ := h
    rfl
  · obtain ⟨af, a, b, c, rfl, hs, h1, h2, h3, kk⟩ := h
    refine ⟨_, (pss_cons (ps_set (i := 1) scLawKind.nd rfl (Or.inl rfl) (pe_op op_sub (pe_op op_mulW (pe_ix (ixT K) (pv 0) pe_int (fun _ _ => rfl)) (pe_ix (ixT K) (pv 0) pe_int (fun _ _ => rfl))) (pe_op op_mulW (pe_op op_mulW pe_int (pe_ix (ixT K) (pv 0) pe_int (fun _ _ => rfl))) (pe_ix (ixT K) (pv 0) pe_int (fun _ _ => rfl)))))
      (pss_cons (ps_if (pt_cmp (pc_lt (pv 1) pe_int))
      (pss_one (ps_ret pe_str))
      pss_nil)
      (pss_cons (ps_if (pt_cmp (pc_eqI (pv 1) pe_int))
      (pss_one (ps_ret pe_str))
      pss_nil)
      (pss_one (ps_ret (pe_ix (ixL K) (pe_lst (pa_cons pe_str (pa_cons pe_str pa_nil))) (pe_callTy (intQ K) (by rfl) T.m_int (by decide +kernel) (pa_cons (pe_call (sp := spLawSquare K) (okLawSquare T) hr (by rfl) T.G__law_square T.F__law_square.kp T.B__law_square .nil pass0 (pa_cons (pv 1) pa_nil)) pa_nil)) (fun _ _ => rfl))))))), ?_⟩
    have ds := dsc_size (n := 10000) (by decide) (show (a.natAbs : Int) ≤ 10000 by omega) (show (b.natAbs : Int) ≤ 10000 by omega) (show (c.natAbs : Int) ≤ 10000 by omega)
    have ed : b * b - 4 * a * c = dsc a b c := rfl
    have ba : Bd 60 a := Bd.om (by omega)
    have bb : Bd 60 b := Bd.om (by omega)
    have bc : Bd 60 c := Bd.om (by omega)
    clean_wf
    rw [ed]
    generalize dsc a b c = d at *
    refine way2 (fun z => ?_) (fun z => ?_)
    · have e : kindS d = "definite" := by
        unfold kindS
        rw [if_pos z]
      rw [e] at kk
      clean_wf
      exact kk _ (Same.refl _)
    clean_wf
    refine way2 (fun y => ?_) (fun y => ?_)
    · have e : kindS d = "flat" := by
        unfold kindS
        rw [if_neg z, if_pos y]
      rw [e] at kk
      clean_wf
      exact kk _ (Same.refl _)
    clean_wf
    by_cases x : rootI d * rootI d = d
    · have e : kindS d = "split" := by
        unfold kindS
        rw [if_neg z, if_neg y, if_pos x]
      rw [e] at kk
      rw [if_pos (decide_eq_true x)]
      clean_wf
      exact kk _ (by assumption)
    · have e : kindS d = "indefinite" := by
        unfold kindS
        rw [if_neg z, if_neg y, if_neg x]
      rw [e] at kk
      rw [if_neg (fun h => x (of_decide_eq_true h))]
      clean_wf
      exact kk _ (by assumption)
def spLawForm (K : PySem.W.Frag) : Sp := fun vs H Q _ => ∃ (p q : Addr) (N : Nat) (ind : Bool), vs = [.ref p, .str (sortS ind)] ∧ Dw H p q N ∧ N ≤ 100000 ∧
  ∀ H' t a b c, Dw H' p q (N + 200) → Kp p H H' → SqT K H' t [.int a, .int b, .int c] → FormOk ind a b c → Q (.ref t) H'
theorem uLawForm {K : PySem.W.Frag} {H : Hp} {Q : VK} {E : XK} {vs : List V} {p q : Addr} {N : Nat} (ind : Bool) (e : vs = [.ref p, .str (sortS ind)]) (d : Dw H p q N) (hN : N ≤ 100000)
    (kk : ∀ H' t a b c, Dw H' p q (N + 200) → Kp p H H' → SqT K H' t [.int a, .int b, .int c] → FormOk ind a b c → Q (.ref t) H') : spLawForm K vs H Q E := ⟨p, q, N, ind, e, d, hN, kk⟩
theorem sgn_at {r : Int} (h0 : 0 ≤ r) (h1 : r < 2) : ∃ v : Int, (v = 1 ∨ v = -1) ∧ atI [V.int 1, V.int (-1)] r = some (.int v) := by
  obtain rfl | rfl : r = 0 ∨ r = 1 := by omega
  · exact ⟨1, .inl rfl, rfl⟩
  · exact ⟨-1, .inr rfl, rfl⟩
theorem sgn_abs {x v : Int} (h : v = 1 ∨ v = -1) : (x * v).natAbs = x.natAbs := by
  rcases h with rfl | rfl
  · rw [Int.mul_one]
  · rw [Int.mul_neg, Int.mul_one, Int.natAbs_neg]
theorem okLawForm (T : Txt K mg fa fd) : FnOk P w K mg base CX0 4 (fa 24) (fd 24) ["state", "sort"] (spLawForm K) := by
  refine T.F__law_form.ok scLawForm (fun vs H Q E h => ?_) (fun cdv A outer s H vs Q E hr h => ?_)
  · obtain ⟨p, q, N, ind, rfl, d0, hN, kk⟩ := h
    rfl
  · obtain ⟨p, q, N, ind, rfl, d0, hN, kk⟩ := h
    refine ⟨_, (pss_cons (ps_if (pt_cmpR op_eq (pv 1) pe_str (nomark _))
      (pss_one ps_never)
      pss_nil)
      (pss_cons (ps_if (pt_cmpR op_eq (pv 1) pe_str (nomark _))
      (pss_one ps_never)
      pss_nil)
      (pss_cons (ps_for PassesOwn.never rfl (pi_range1 (by rfl) T.m_range (pa_cons pe_int pa_nil)) (pg_name (i := 2) scLawForm.nd rfl (Or.inl rfl))
      (pss_cons (ps_set (i := 3) scLawForm.nd rfl (Or.inl rfl) (pe_op op_mulW (pe_op op_add pe_int (pe_call (sp := spLawNext K) (okLawNext T) (hr.mono (by decide)) (by rfl) T.G__law_next T.F__law_next.kp T.B__law_next .nil pass0 (pa_cons (pv 0) (pa_cons pe_int pa_nil)))) (pe_ix (ixL K) (pe_lst (pa_cons pe_int (pa_cons (pe_un un_neg pe_int) pa_nil))) (pe_call (sp := spLawNext K) (okLawNext T) (hr.mono (by decide)) (by rfl) T.G__law_next T.F__law_next.kp T.B__law_next .nil pass0 (pa_cons (pv 0) (pa_cons pe_int pa_nil))) (fun _ _ => rfl))))
        (pss_cons (ps_set (i := 4) scLawForm.nd rfl (Or.inl rfl) (pe_op op_mulW (pe_op op_add pe_int (pe_call (sp := spLawNext K) (okLawNext T) (hr.mono (by decide)) (by rfl) T.G__law_next T.F__law_next.kp T.B__law_next .nil pass0 (pa_cons (pv 0) (pa_cons pe_int pa_nil)))) (pe_ix (ixL K) (pe_lst (pa_cons pe_int (pa_cons (pe_un un_neg pe_int) pa_nil))) (pe_call (sp := spLawNext K) (okLawNext T) (hr.mono (by decide)) (by rfl) T.G__law_next T.F__law_next.kp T.B__law_next .nil pass0 (pa_cons (pv 0) (pa_cons pe_int pa_nil))) (fun _ _ => rfl))))
        (pss_cons (ps_set (i := 5) scLawForm.nd rfl (Or.inl rfl) (pe_tup (pa_cons (pv 3) (pa_cons (pe_op op_sub (pe_call (sp := spLawNext K) (okLawNext T) (hr.mono (by decide)) (by rfl) T.G__law_next T.F__law_next.kp T.B__law_next .nil pass0 (pa_cons (pv 0) (pa_cons pe_int pa_nil))) pe_int) (pa_cons (pv 4) pa_nil)))))
        (pss_one (ps_if (pt_cmpR op_eq (pe_call (sp := spLawKind K) (okLawKind T) hr (by rfl) T.G__law_kind T.F__law_kind.kp T.B__law_kind .nil pass0 (pa_cons (pv 5) pa_nil)) (pv 1) (nomark _))
        (pss_one (ps_ret (pv 5)))
        pss_nil))))))
      (pss_one (ps_ret (pe_ix (ixL K) (pe_lst (pa_cons (pe_tup (pa_cons pe_int (pa_cons pe_int (pa_cons pe_int pa_nil)))) (pa_cons (pe_tup (pa_cons pe_int (pa_cons pe_int (pa_cons (pe_un un_neg pe_int) pa_nil)))) pa_nil))) (pe_callTy (intQ K) (by rfl) T.m_int (by decide +kernel) (pa_cons (pe_cmpR op_eq (pv 1) pe_str (nomark _)) pa_nil)) (fun _ _ => rfl))))))), ?_⟩
    have n1 : ∀ ind : Bool, ¬ (V.str (sortS ind) = V.str "split") := by
      intro ind h
      injection h with h
      cases ind <;> exact absurd h (by decide)
    have n2 : ∀ ind : Bool, ¬ (V.str (sortS ind) = V.str "flat") := by
      intro ind h
      injection h with h
      cases ind <;> exact absurd h (by decide)
    have n3 : ∀ ind : Bool, decide (V.str (sortS ind) = V.str "indefinite") = ind := by
      intro ind
      cases ind
      · exact decide_eq_false (fun h => by injection h with h; exact absurd h (by decide))
      · exact decide_eq_true rfl
    clean_wf
    refine wayF (n1 ind) ?_
    clean_wf
    refine wayF (n2 ind) ?_
    clean_wf
    refine R.forN (lo := 0) (n := Int.toNat 30) (fun i σ H' => ∃ (x2 x3 x4 x5 : Option V), σ = [some (.ref p), some (.str (sortS ind)), x2, x3, x4, x5] ∧ Dw H' p q (N + 5 * i) ∧ Kp p H H')
      ⟨_, _, _, _, rfl, d0, Kp.refl⟩ (fun i σ H' hi hPv => ?_) (fun σ H' hPv => ?_)
    · obtain ⟨x2, x3, x4, x5, rfl, dw, kp⟩ := hPv
      replace hi : i < 30 := hi
      clean_wf
      intro r1 H1 r1a r1b d1 k1
      clean_wf
      intro r2 H2 r2a r2b d2 k2
      obtain ⟨v1, hv1, ev1⟩ := sgn_at r2a r2b
      refine R.ixL (xs := [V.int 1, V.int (-1)]) (by array_get_dec) ev1 ?_
      have z1 := sgn_abs (x := 1 + r1) hv1
      clean_wf
      intro r3 H3 r3a r3b d3 k3
      clean_wf
      intro r4 H4 r4a r4b d4 k4
      obtain ⟨v2, hv2, ev2⟩ := sgn_at r4a r4b
      refine R.ixL (xs := [V.int 1, V.int (-1)]) (by array_get_dec) ev2 ?_
      have z2 := sgn_abs (x := 1 + r3) hv2
      clean_wf
      intro r5 H5 r5a r5b d5 k5
      generalize (1 + r1) * v1 = a at *
      generalize (1 + r3) * v2 = c at *
      clean_wf
      intro H6 s6
      clean_wf
      refine way2 (fun z => ?_) (fun z => ?_)
      · skip
        clean_wf
        refine kk _ _ _ _ _ ?_ ?_ (by simp_wf) ⟨by omega, by omega, by omega, ?_⟩
        · exact Dw.mono (N := N + 5 * i + 1 + 1 + 1 + 1 + 1) (by clean_wf) (by omega)
        · sizeOf_list_dec
        · injection z
      · skip
        clean_wf
        refine ⟨_, _, _, _, rfl, Dw.mono (N := N + 5 * i + 1 + 1 + 1 + 1 + 1) (by clean_wf) (by omega), ?_⟩
        sizeOf_list_dec
    · obtain ⟨x2, x3, x4, x5, rfl, dw, kp⟩ := hPv
      replace dw : Dw H' p q (N + 5 * 30) := dw
      clean_wf
      rw [n3 ind]
      cases ind
      · skip
        clean_wf
        refine kk _ _ 1 1 2 ?_ ?_ (by simp_wf) ⟨by decide, by decide, by decide, by decide +kernel⟩
        · exact Dw.mono (N := N + 5 * 30) (by clean_wf) (by omega)
        · sizeOf_list_dec
      · skip
        clean_wf
        refine kk _ _ 1 0 (-2) ?_ ?_ (by simp_wf) ⟨by decide, by decide, by decide, by decide +kernel⟩
        · exact Dw.mono (N := N + 5 * 30) (by clean_wf) (by omega)
        · sizeOf_list_dec
def spLawNeighbour (K : PySem.W.Frag) : Sp := fun vs H Q _ => ∃ (af : Addr) (a b c D : Int), vs = [.ref af] ∧ SqT K H af [.int a, .int b, .int c] ∧ IF D a b c ∧ Bd 60 a ∧ Bd 60 b ∧ Bd 60 c ∧ R.Nw H [.int c, .int (bN D b c), .int ((bN D b c * bN D b c - D).fdiv (4 * c))] Q
theorem uLawNeighbour {K : PySem.W.Frag} {H : Hp} {Q : VK} {E : XK} {vs : List V} {af : Addr} {a b c D : Int} (e : vs = [.ref af]) (hs : SqT K H af [.int a, .int b, .int c]) (F : IF D a b c) (b1 : Bd 60 a) (b2 : Bd 60 b) (b3 : Bd 60 c) (kk : R.Nw H [.int c, .int (bN D b c), .int ((bN D b c * bN D b c - D).fdiv (4 * c))] Q) : spLawNeighbour K vs H Q E := ⟨af, a, b, c, D, e, hs, F, b1, b2, b3, kk⟩
theorem okLawNeighbour (T : Txt K mg fa fd) : FnOk P w K mg base CX0 2 (fa 25) (fd 25) ["form"] (spLawNeighbour K) := by
  refine T.F__law_neighbour.ok scLawNeighbour (fun vs H Q E h => ?_) (fun cdv A outer s H vs Q E hr h => ?_)
  · obtain ⟨af, a, b, c, D, rfl, hs, F, b1, b2, b3, kk⟩ := h
    rfl
  · obtain ⟨af, a, b, c, D, rfl, hs, F, b1, b2, b3, kk⟩ := h
    refine ⟨_, (pss_cons (ps_asg (pv 0) (pgT K 3 (by rfl) (pgs_cons (pg_name (i := 1) scLawNeighbour.nd rfl (Or.inl rfl)) (pgs_cons (pg_name (i := 2) scLawNeighbour.nd rfl (Or.inl rfl)) (pgs_cons (pg_name (i := 3) scLawNeighbour.nd rfl (Or.inl rfl)) pgs_nil)))))
      (pss_cons (ps_set (i := 4) scLawNeighbour.nd rfl (Or.inl rfl) (pe_op op_sub (pe_op op_mulW (pv 2) (pv 2)) (pe_op op_mulW (pe_op op_mulW pe_int (pv 1)) (pv 3))))
      (pss_cons (ps_set (i := 5) scLawNeighbour.nd rfl (Or.inl rfl) (pe_call (sp := spLawRoot K) (okLawRoot T) hr (by rfl) T.G__law_root T.F__law_root.kp T.B__law_root .nil pass0 (pa_cons (pv 4) pa_nil)))
      (pss_cons (ps_set (i := 6) scLawNeighbour.nd rfl (Or.inl rfl) (pe_op op_sub (pv 5) (pe_op op_mod (pe_op op_add (pv 5) (pv 2)) (pe_op op_mulW pe_int (pe_callB (absQ K) (by rfl) T.m_abs (by decide +kernel) (pa_cons (pv 3) pa_nil))))))
      (pss_one (ps_ret (pe_tup (pa_cons (pv 3) (pa_cons (pv 6) (pa_cons (pe_op op_fdivX (pe_op op_sub (pe_op op_mulW (pv 6) (pv 6)) (pv 4)) (pe_op op_mulW pe_int (pv 3))) pa_nil)))))))))), ?_⟩
    have hd : b * b - 4 * a * c = D := F.d
    have d0 := F.d0
    have d1 := F.d1
    have c0 := F.c0
    obtain ⟨r0, r1, _⟩ := F.root
    have br : Bd 60 (rootI D) := Bd.om (by omega)
    rw [← hd] at kk br
    clean_wf
    all_goals exact kk _ _ sn ht
def spLawRing (K : PySem.W.Frag) : Sp := fun vs H Q _ => ∃ (af : Addr) (a b c D : Int) (k : Nat), vs = [.ref af] ∧ SqT K H af [.int a, .int b, .int c] ∧ IF D a b c ∧ RedI D a b ∧ Cyc D (a, b, c) (k + 1) ∧ k + 1 ≤ 1624 ∧
  ∀ H' l ys, Same H H' → H l = none → H' l = some (.lst ys) → Tps K H' ys (ringF D (a, b, c) (k + 1)) → Q (.ref l) H'
theorem uLawRing {K : PySem.W.Frag} {H : Hp} {Q : VK} {E : XK} {vs : List V} {af : Addr} {a b c D : Int} {k : Nat} (e : vs = [.ref af]) (hs : SqT K H af [.int a, .int b, .int c]) (F : IF D a b c) (h1 : RedI D a b) (h2 : Cyc D (a, b, c) (k + 1)) (h3 : k + 1 ≤ 1624)
    (kk : ∀ H' l ys, Same H H' → H l = none → H' l = some (.lst ys) → Tps K H' ys (ringF D (a, b, c) (k + 1)) → Q (.ref l) H') : spLawRing K vs H Q E := ⟨af, a, b, c, D, k, e, hs, F, h1, h2, h3, kk⟩
theorem okLawRing (T : Txt K mg fa fd) : FnOk P w K mg base CX0 3 (fa 26) (fd 26) ["form"] (spLawRing K) := by
  refine T.F__law_ring.ok scLawRing (fun vs H Q E h => ?_) (fun cdv A outer s H vs Q E hr h => ?_)
  · obtain ⟨af, a, b, c, D, k, rfl, hs, F, R0, cy, hk, kk⟩ := h
    rfl
  · obtain ⟨af, a, b, c, D, k, rfl, hs, F, R0, cy, hk, kk⟩ := h
    refine ⟨_, (pss_cons (ps_set (i := 1) scLawRing.nd rfl (Or.inl rfl) (pe_lst (pa_cons (pv 0) pa_nil)))
      (pss_cons (ps_for PassesOwn.never rfl (pi_range1 (by rfl) T.m_range (pa_cons pe_int pa_nil)) (pg_name (i := 2) scLawRing.nd rfl (Or.inl rfl))
      (pss_cons (ps_set (i := 3) scLawRing.nd rfl (Or.inl rfl) (pe_call (sp := spLawNeighbour K) (okLawNeighbour T) hr (by rfl) T.G__law_neighbour T.F__law_neighbour.kp T.B__law_neighbour .nil pass0 (pa_cons (pe_ix (ixL K) (pv 1) (pe_op op_sub (pe_callB (lenQ K) (by rfl) T.m_len (by decide +kernel) (pa_cons (pv 1) pa_nil)) pe_int) (fun _ _ => rfl)) pa_nil)))
        (pss_cons (ps_if (pt_cmpR (eqDQ K hr.units) (pv 3) (pv 0) (nomark _))
        (pss_one (ps_ret (pv 1)))
        pss_nil)
        (pss_one (ps_expr (pe_bm PySem.F.plainAttrs_list PySem.F.slot_list_append PySem.F.type_list_append mt_append (pv 1) (pa_cons (pv 3) pa_nil)))))))
      (pss_one (ps_ret (pv 1))))), ?_⟩
    clean_wf
    have htb := ht
    have nD := nn
    generalize tn = tb at *
    refine R.forN (lo := 0) (n := 3000) (fun i σ H' => ∃ (x2 x3 : Option V) (ys : List V), σ = [some (.ref af), some (.ref tb), x2, x3] ∧ i ≤ k ∧ Same H H' ∧ H' tb = some (.lst ys) ∧ Tps K H' ys (ringF D (a, b, c) (i + 1)))
      ?_ (fun i σ H' hi hPv => ?_) (fun σ H' hPv => ?_)
    · exact ⟨_, _, _, rfl, Nat.zero_le _, by array_mem_dec, htb, .cons (t := fL (a, b, c)) (show SqT K HN af [V.int a, V.int b, V.int c] by simp_wf) .nil⟩
    · obtain ⟨x2, x3, ys, rfl, hik, sm, hl, tp⟩ := hPv
      have sf := same_seqT sm hs
      obtain ⟨Fi, Ri⟩ := rhoN_ok (f := (a, b, c)) i F R0
      have nxt : rhoN D (i + 1) (a, b, c) = rho D (rhoN D i (a, b, c)) := rhoN_succ D i (a, b, c)
      rw [rho_eq Fi] at nxt
      have hrp := ringF_snoc D (a, b, c) (i + 1)
      have last : i = k → rhoN D (i + 1) (a, b, c) = (a, b, c) := fun e => by
        rw [e]
        exact cy.back
      have other : i ≠ k → rhoN D (i + 1) (a, b, c) ≠ (a, b, c) := fun e => cy.first (i + 1) (by omega) (by omega)
      have hyl := tp.len
      rw [ringF_len] at hyl
      have hyi : ys[i]? = some (ys[i]'(by omega)) := List.getElem?_eq_getElem (by omega)
      obtain ⟨ax, t, ex, ht2, sx⟩ := tp.at hyi
      rw [ex] at hyi
      have et := ringF_at ht2
      rw [et] at sx
      rw [nxt] at hrp last other
      clear ht2 et ex
      generalize rhoN D i (a, b, c) = g at *
      obtain ⟨x, y, z⟩ := g
      have Fi : IF D x y z := Fi
      have Ri : RedI D x y := Ri
      obtain ⟨u1, u2, u3⟩ := red_bd Fi Ri
      change SqT K H' ax [V.int x, V.int y, V.int z] at sx
      have nb := Fi.nbc
      dsimp only at hrp last other
      rw [← nb] at hrp last other
      clear nb nxt
      clean_wf
      refine R.lenL (SqL.of hl) ?_
      clean_wf
      refine R.ixL (SqL.of hl) (v := .ref ax) ?_ ?_
      · rw [hyl, show (((i + 1 : Nat) : Int) - 1) = ((i : Nat) : Int) by omega]
        exact atI_nat hyi
      clean_wf
      refine way2 (fun hz => ?_) (fun hz => ?_)
      · skip
        clean_wf
        have ik : i = k := by
          by_cases h : i = k
          · exact h
          · exact absurd (fm_ext hz.1 hz.2.1 hz.2.2) (other h)
        subst ik
        exact kk _ _ _ (by array_mem_dec) nD (sn _ _ hl) (tp.same sn)
      · have ik : i < k := by
          rcases Nat.lt_or_ge i k with h | h
          · exact h
          · have e := last (by omega)
            injection e with e1 e2
            injection e2 with e2 e3
            exact absurd ⟨e1, e2, e3⟩ hz
        have hln := sn _ _ hl
        clean_wf
        refine R.app hln (by omega) (fun H5 e5 h5 => ?_)
        have s5 : KT K HN H5 := by
          rw [e5]
          exact kt_off hln
        refine ⟨_, _, ys ++ [.ref tn], rfl, by omega, ?_, h5, ?_⟩
        · rw [e5]
          exact same_mut (sm.trans sn) nD
        · rw [hrp]
          exact ((tp.same sn).kt s5).snoc (s5 _ _ (SqT.of ht))
    · obtain ⟨x2, x3, ys, rfl, hik, sm, hl, tp⟩ := hPv
      omega
def spLaw (K : PySem.W.Frag) : Sp := fun vs H Q _ => ∃ (a : Addr) (ns : List Int), vs = [.ref a] ∧ SqL K H a (ns.map V.int) ∧ ns.length ≤ 63 ∧ ∀ H', Q (.bl true) H'
theorem okLaw (T : Txt K mg fa fd) : FnOk P w K mg base CX0 6 (fa 27) (fd 27) ["script"] (spLaw K) := by
  refine T.F_law.ok scLaw (fun vs H Q E h => ?_) (fun cdv A outer s H vs Q E hr h => ?_)
  · obtain ⟨l, ns, rfl, hS, hlen, qq⟩ := h
    rfl
  · obtain ⟨l, ns, rfl, hS, hlen, qq⟩ := h
    refine ⟨_, (pss_cons (ps_set (i := 1) scLaw.nd rfl (Or.inl rfl) (pe_call (sp := spLawState K) (okLawState T) (hr.mono (by decide)) (by rfl) T.G__law_state T.F__law_state.kp T.B__law_state .nil pass0 (pa_cons (pv 0) pa_nil)))
      (pss_cons (ps_set (i := 2) scLaw.nd rfl (Or.inl rfl) (pe_call (sp := spLawAct K) (okLawAct T) (hr.mono (by decide)) (by rfl) T.G__law_act T.F__law_act.kp T.B__law_act .nil pass0 (pa_cons (pe_call (sp := spLawForm K) (okLawForm T) (hr.mono (by decide)) (by rfl) T.G__law_form T.F__law_form.kp T.B__law_form .nil pass0 (pa_cons (pv 1) (pa_cons pe_str pa_nil))) (pa_cons (pe_call (sp := spLawChange K) (okLawChange T) (hr.mono (by decide)) (by rfl) T.G__law_change T.F__law_change.kp T.B__law_change .nil pass0 (pa_cons (pv 1) (pa_cons pe_int pa_nil))) pa_nil))))
      (C8.pss_cut (ps_if (pt_cmp (pc_eqI (pe_call (sp := spLawNext K) (okLawNext T) (hr.mono (by decide)) (by rfl) T.G__law_next T.F__law_next.kp T.B__law_next .nil pass0 (pa_cons (pv 1) (pa_cons pe_int pa_nil))) pe_int))
      (pss_cons (ps_set (i := 3) scLaw.nd rfl (Or.inl rfl) (pe_tup (pa_cons (pe_op op_add pe_int (pe_call (sp := spLawNext K) (okLawNext T) (hr.mono (by decide)) (by rfl) T.G__law_next T.F__law_next.kp T.B__law_next .nil pass0 (pa_cons (pv 1) (pa_cons pe_int pa_nil)))) (pa_cons (pe_op op_sub (pe_call (sp := spLawNext K) (okLawNext T) (hr.mono (by decide)) (by rfl) T.G__law_next T.F__law_next.kp T.B__law_next .nil pass0 (pa_cons (pv 1) (pa_cons pe_int pa_nil))) pe_int) (pa_cons (pe_op op_sub (pe_un un_neg pe_int) (pe_call (sp := spLawNext K) (okLawNext T) (hr.mono (by decide)) (by rfl) T.G__law_next T.F__law_next.kp T.B__law_next .nil pass0 (pa_cons (pv 1) (pa_cons pe_int pa_nil)))) pa_nil)))))
        (pss_one (ps_if (pt_cmpR op_eq (pe_call (sp := spLawKind K) (okLawKind T) (hr.mono (by decide)) (by rfl) T.G__law_kind T.F__law_kind.kp T.B__law_kind .nil pass0 (pa_cons (pv 3) pa_nil)) pe_str (nomark _))
        (pss_one (ps_set (i := 2) scLaw.nd rfl (Or.inl rfl) (pv 3)))
        pss_nil)))
      pss_nil)
      (pss_cons (ps_set (i := 4) scLaw.nd rfl (Or.inl rfl) (pe_ix (ixT K) (pe_call (sp := spReduceIndefinite K) (okReduceIndefinite T) (hr.mono (by decide)) (by rfl) T.G_reduce_indefinite T.F_reduce_indefinite.kp T.B_reduce_indefinite .nil pass0 (pa_cons (pv 2) pa_nil)) pe_int (fun _ _ => rfl)))
      (pss_cons (ps_set (i := 5) scLaw.nd rfl (Or.inl rfl) (pe_call (sp := spLawRing K) (okLawRing T) (hr.mono (by decide)) (by rfl) T.G__law_ring T.F__law_ring.kp T.B__law_ring .nil pass0 (pa_cons (pv 4) pa_nil)))
      (pss_cons (ps_set (i := 6) scLaw.nd rfl (Or.inl rfl) (pe_call (sp := spCycle K) (okCycle T) (hr.mono (by decide)) (by rfl) T.G_cycle T.F_cycle.kp T.B_cycle .nil pass0 (pa_cons (pv 4) pa_nil)))
      (pss_cons (ps_if (PW.pt (pw_or (pt_not (pt_val (pe_callB (isiQ K) (by rfl) T.m_isinstance (by decide +kernel) (pa_cons (pv 6) (pa_cons (pe_bltn (v := .ty "list") (by rfl) T.m_list (by decide +kernel) rfl) pa_nil))))) (pw_or (pt_cmpR (neDQ K hr.units) (pe_lc (own := [("pair", 7)]) (g := gName 7) (tt := tYes) rfl scLaw.nd (piL K (pv 6)) (blkOk_by (own := [("pair", 7)]) (N := ["script", "state", "form", "other", "first", "ring", "told", "pair", "m", "least"]) (sc := defScope sLaw) (by decide +kernel)) (fun _ _ _ _ _ => (pg_name (i := 7) scLaw.nd rfl (Or.inl rfl))) (fun _ _ _ _ _ => pts_nil) (fun _ _ _ _ _ => (pe_ix (ixT K) (pv 7) pe_int (fun _ _ => rfl)))) (pv 5) (nomark _)) (pw_or1 (pt_cmpR (neDQ K hr.units) (pe_ix (ixT K) (pe_ix (ixL K) (pv 6) pe_int (fun _ _ => rfl)) pe_int (fun _ _ => rfl)) (pe_tup (pa_cons pe_int (pa_cons pe_int (pa_cons pe_int (pa_cons pe_int pa_nil))))) (nomark _))))))
      (pss_one (ps_ret pe_bl))
      pss_nil)
      (pss_cons (ps_expr (pe_bm PySem.F.plainAttrs_list PySem.F.slot_list_append PySem.F.type_list_append mt_append (pe_call (sp := spCycle K) (okCycle T) (hr.mono (by decide)) (by rfl) T.G_cycle T.F_cycle.kp T.B_cycle .nil pass0 (pa_cons (pv 4) pa_nil)) (pa_cons (pe_ix (ixL K) (pv 6) pe_int (fun _ _ => rfl)) pa_nil)))
      (pss_cons (ps_if (pt_cmpR (neDQ K hr.units) (pe_call (sp := spCycle K) (okCycle T) (hr.mono (by decide)) (by rfl) T.G_cycle T.F_cycle.kp T.B_cycle .nil pass0 (pa_cons (pv 4) pa_nil)) (pv 6) (nomark _))
      (pss_one (ps_ret pe_bl))
      pss_nil)
      (pss_cons (ps_for PassesOwn.never rfl (piL K (pe_op op_cat (pv 6) (pe_lst (pa_cons (pe_call (sp := spCanonical K) (okCanonical T) hr (by rfl) T.G_canonical T.F_canonical.kp T.B_canonical .nil pass0 (pa_cons (pv 2) pa_nil)) pa_nil)))) (pg_name (i := 7) scLaw.nd rfl (Or.inl rfl))
      (pss_one (ps_if (pt_not (pt_val (pe_callB (isiQ K) (by rfl) T.m_isinstance (by decide +kernel) (pa_cons (pv 7) (pa_cons (pe_bltn (v := .ty "tuple") (by rfl) T.m_tuple (by decide +kernel) rfl) pa_nil)))))
        (pss_one (ps_ret pe_bl))
        pss_nil)))
      (pss_cons (ps_for PassesOwn.never rfl (piL K (pv 6)) (pgT K 2 (by rfl) (pgs_cons (pg_name (i := 3) scLaw.nd rfl (Or.inl rfl)) (pgs_cons (pg_name (i := 8) scLaw.nd rfl (Or.inl rfl)) pgs_nil)))
      (pss_one (ps_if (PW.pt (pw_or (pt_not (pt_val (pe_callB (isiQ K) (by rfl) T.m_isinstance (by decide +kernel) (pa_cons (pv 8) (pa_cons (pe_bltn (v := .ty "tuple") (by rfl) T.m_tuple (by decide +kernel) rfl) pa_nil))))) (pw_or (pt_cmp (pc_neI (pe_op op_sub (pe_op op_mulW (pe_ix (ixT K) (pv 8) pe_int (fun _ _ => rfl)) (pe_ix (ixT K) (pv 8) pe_int (fun _ _ => rfl))) (pe_op op_mulW (pe_ix (ixT K) (pv 8) pe_int (fun _ _ => rfl)) (pe_ix (ixT K) (pv 8) pe_int (fun _ _ => rfl)))) pe_int)) (pw_or1 (pt_cmpR (neDQ K hr.units) (pe_call (sp := spLawAct K) (okLawAct T) (hr.mono (by decide)) (by rfl) T.G__law_act T.F__law_act.kp T.B__law_act .nil pass0 (pa_cons (pv 4) (pa_cons (pv 8) pa_nil))) (pv 3) (nomark _))))))
        (pss_one (ps_ret pe_bl))
        pss_nil)))
      (pss_cons (ps_asg (pe_call (sp := spCanonical K) (okCanonical T) hr (by rfl) T.G_canonical T.F_canonical.kp T.B_canonical .nil pass0 (pa_cons (pv 2) pa_nil)) (pgT K 2 (by rfl) (pgs_cons (pg_name (i := 9) scLaw.nd rfl (Or.inl rfl)) (pgs_cons (pg_name (i := 8) scLaw.nd rfl (Or.inl rfl)) pgs_nil))))
      (pss_cons (ps_if (PW.pt (pw_or (pt_cmpR (neDQ K hr.units) (pv 9) (pe_callB (minDQ K (PySem.W.Tup Int) rfl (room65 hr)) (by rfl) T.m_min (by decide +kernel) (pa_cons (pv 5) pa_nil)) (nomark _)) (pw_or (pt_cmpR (neDQ K hr.units) (pe_call (sp := spLawAct K) (okLawAct T) (hr.mono (by decide)) (by rfl) T.G__law_act T.F__law_act.kp T.B__law_act .nil pass0 (pa_cons (pv 2) (pa_cons (pv 8) pa_nil))) (pv 9) (nomark _)) (pw_or1 (pt_cmp (pc_neI (pe_op op_sub (pe_op op_mulW (pe_ix (ixT K) (pv 8) pe_int (fun _ _ => rfl)) (pe_ix (ixT K) (pv 8) pe_int (fun _ _ => rfl))) (pe_op op_mulW (pe_ix (ixT K) (pv 8) pe_int (fun _ _ => rfl)) (pe_ix (ixT K) (pv 8) pe_int (fun _ _ => rfl)))) pe_int))))))
      (pss_one (ps_ret pe_bl))
      pss_nil)
      (pss_one (ps_ret (pe_cmpR (eqDQ K hr.units) (pe_ix (ixT K) (pe_call (sp := spCanonical K) (okCanonical T) hr (by rfl) T.G_canonical T.F_canonical.kp T.B_canonical .nil pass0 (pa_cons (pe_call (sp := spLawAct K) (okLawAct T) (hr.mono (by decide)) (by rfl) T.G__law_act T.F__law_act.kp T.B__law_act .nil pass0 (pa_cons (pv 2) (pa_cons (pe_call (sp := spLawChange K) (okLawChange T) (hr.mono (by decide)) (by rfl) T.G__law_change T.F__law_change.kp T.B__law_change .nil pass0 (pa_cons (pv 1) (pa_cons pe_int pa_nil))) pa_nil))) pa_nil)) pe_int (fun _ _ => rfl)) (pv 9) (nomark _))))))))))))))))), ?_⟩
    clean_wf
    refine ⟨l, ns, rfl, hS, fun H1 p q s1 d1 => ?_⟩
    clean_wf
    refine uLawForm true rfl d1 (by decide) ?_
    intro H2 tf a b c d2 k2 sF hF
    obtain ⟨f1, f2, f3, f4⟩ := hF
    have fa1 : Bd 10 a := Bd.of (m := 5) f1 (by decide)
    have fb1 : Bd 10 b := Bd.of (m := 6) f2 (by decide)
    have fc1 : Bd 10 c := Bd.of (m := 5) f3 (by decide)
    clean_wf
    intro H3 tm m1 m2 m3 m4 d3 k3 s3 l3
    have l3 := l3.mono (show Int.toNat 4 ≤ 4 by decide)
    obtain ⟨g1, g2, g3, g4⟩ := l3.bd (by decide)
    clean_wf
    obtain ⟨dd0, dns⟩ := kindS_ind f4
    have ds := dsc_size (n := 6) (by decide) (show (a.natAbs : Int) ≤ 6 by omega) (show (b.natAbs : Int) ≤ 6 by omega) (show (c.natAbs : Int) ≤ 6 by omega)
    have sz := act_size (a := a) (b := b) (c := c) (C := 6) (M := 81) (by omega) (by omega) (by omega) l3.2.1 l3.2.2.1 l3.2.2.2.1 l3.2.2.2.2
    have F1 : IF (dsc a b c) (fA a b c m1 m3) (fB a b c m1 m2 m3 m4) (fA a b c m2 m4) := ⟨by rw [dsc_act, l3.1]; omega, dd0, by omega, dns⟩
    have sF1 : SqT K HN tn [.int (fA a b c m1 m3), .int (fB a b c m1 m2 m3 m4), .int (fA a b c m2 m4)] := SqT.of ht
    have dN := d3.same sn
    clear ht sF s3
    generalize dsc a b c = D0 at *
    generalize fA a b c m1 m3 = A0 at *
    generalize fB a b c m1 m2 m3 m4 = B0 at *
    generalize fA a b c m2 m4 = C0 at *
    generalize tn = tF0 at *
    refine R.cut (Mid := fun σ H' => ∃ (tF : Addr) (x3 : Option V) (A B C D : Int) (N : Nat), σ = [some (.ref l), some (.ref p), some (.ref tF), x3, none, none, none, none, none, none] ∧ SqT K H' tF [.int A, .int B, .int C] ∧ IF D A B C ∧ D ≤ 3200 ∧ A.natAbs ≤ 1000000 ∧ B.natAbs ≤ 1000000 ∧ C.natAbs ≤ 1000000 ∧ Dw H' p q N ∧ N ≤ 1000) ?_ (fun σ H' hM => ?_)
    · skip
      clean_wf
      intro r1 H4 r1a r1b d4 k4
      clean_wf
      refine way2 (fun z => ?_) (fun z => ?_)
      · skip
        clean_wf
        intro r2 H5 r2a r2b d5 k5
        clean_wf
        intro r3 H6 r3a r3b d6 k6
        clean_wf
        intro r4 H7 r4a r4b d7 k7
        clean_wf
        intro H8 s8
        clean_wf
        refine way2 (fun z2 => ?_) (fun z2 => ?_)
        · skip
          clean_wf
          have y1 : (r3 - 40) * (r3 - 40) ≤ 1600 := by
            rw [← sq_abs]
            exact Int.mul_le_mul (show ((r3 - 40).natAbs : Int) ≤ 40 by omega) (show ((r3 - 40).natAbs : Int) ≤ 40 by omega) (by omega) (by omega)
          have y2 : (1 + r2) * (1 + r4) ≤ 400 := Int.mul_le_mul (show 1 + r2 ≤ 20 by omega) (show 1 + r4 ≤ 20 by omega) (by omega) (by omega)
          have y3 : dsc (1 + r2) (r3 - 40) (-1 - r4) = (r3 - 40) * (r3 - 40) + 4 * ((1 + r2) * (1 + r4)) := by
            unfold dsc
            grind
          obtain ⟨z3, z4⟩ := kindS_ind (V.str.inj z2)
          exact ⟨_, _, 1 + r2, r3 - 40, -1 - r4, _, _, rfl, by simp_wf, ⟨rfl, z3, by omega, z4⟩, by omega, by omega, by omega, by omega, d7.same (by array_mem_dec), by decide⟩
        · skip
          clean_wf
          exact ⟨_, _, A0, B0, C0, D0, _, rfl, by simp_wf, F1, by omega, by omega, by omega, by omega, d7.same (by array_mem_dec), by decide⟩
      · skip
        clean_wf
        exact ⟨_, _, A0, B0, C0, D0, _, rfl, by simp_wf, F1, by omega, by omega, by omega, by omega, d4, by decide⟩
    · obtain ⟨tF, x3, A, B, C, D, N, rfl, sF, F2, hD, hA, hB, hC, d4, hN⟩ := hM
      have b1 : (A.natAbs : Int) ≤ 1099511627776 := by omega
      have b2 : (B.natAbs : Int) ≤ 1099511627776 := by omega
      have b3 : (C.natAbs : Int) ≤ 1099511627776 := by omega
      clean_wf
      refine uReduceIndefinite rfl (by simp_wf) F2 b1 b2 b3 ?_
      intro H5 t tr tq a' b' c' p' q' r' s' sm5 ht5 sf5 st5 RI hred e1 e2 e3 e4
      have F3 := RI.F
      obtain ⟨k, cy, hk⟩ := ring_ok (f := (a', b', c')) F3 hred hD
      clean_wf
      intro H6 lr ys6 sm6 nl6 hl6 tp6
      clean_wf
      intro H7 lt ys7 sm7 nl7 hl7 pp7
      clean_wf
      have hy7 := pp7.len
      rw [ringP_len] at hy7
      obtain ⟨zs, tz, hz⟩ := pp7.firsts
      rw [ringP_fst] at tz
      have hzl := tz.len
      rw [ringF_len] at hzl
      have hr7 := sm7 _ _ hl6
      have tp7 := tp6.same sm7
      have h70 : ys7[0]? = some (ys7[0]'(by omega)) := List.getElem?_eq_getElem (by omega)
      obtain ⟨a0, u0, v0, f0, m0, e0, h0, s0, su0, sv0⟩ := pp7.at h70
      rw [e0] at h70
      obtain ⟨_, h0⟩ := ringP_at h0
      injection h0 with h01 h02
      rw [h02] at sv0
      have sv0 : SqT K H7 v0 [V.int 1, V.int 0, V.int 0, V.int 1] := sv0
      clear h01 h02 e0 su0
      refine ⟨lt, rfl, ⟨_, SqL.of hl7⟩, ?_⟩
      refine R.lcV (ys := ys7) (zs := zs) (by omega) (by omega) (SqL.of hl7) (fun i y z H' Q' hy hzi smx qx => ?_) (fun H8 D8 hD8 sm8 nD8 => ?_)
      · obtain ⟨ax, u, v, rfl, sx, hzu⟩ := hz i y hy
        rw [hzu] at hzi
        cases hzi
        have sx := same_seqT smx sx
        refine ⟨rfl, ?_⟩
        clean_wf
      clean_wf
      refine R.neTps (SqL.of hD8) (tz.same sm8) (SqL.of (sm8 _ _ hr7)) (tp7.same sm8) ?_
      rw [decide_eq_true rfl]
      have hl8 := sm8 _ _ hl7
      have s08 := same_seqT sm8 s0
      have sv08 := same_seqT sm8 sv0
      clean_wf
      refine R.ixL (SqL.of hl8) (v := .ref a0) (atI_nat (j := 0) h70) ?_
      clean_wf
      intro H9 l9 ys9 sm9 nl9 hl9 pp9
      refine R.bmT hl9 ?_
      clean_wf
      refine R.ixL (SqL.of (sm9 _ _ (sn _ _ hl8))) (v := .ref a0) (atI_nat (j := 0) h70) ?_
      clean_wf
      have hy9 := pp9.len
      rw [ringP_len] at hy9
      refine R.app hl9 (by omega) (fun H10 e10 h10 => ?_)
      have s10 : Same HN H10 := by
        rw [e10]
        exact same_mut sm9 nl9
      clear e10 h10 pp9 hy9 hl9 nl9 sm9
      have hl10 := s10 _ _ (sn _ _ hl8)
      have pp10 := ((pp7.same sm8).same sn).same s10
      have tp10 := ((tp7.same sm8).same sn).same s10
      have hr10 := s10 _ _ (sn _ _ (sm8 _ _ hr7))
      have s510 : Same H5 H10 := sm6.trans (sm7.trans (sm8.trans (sn.trans s10)))
      have sf10 := same_seqT s510 sf5
      have sF10 := same_seqT (sm5.trans s510) sF
      have d10 := d4.same (sm5.trans s510)
      clean_wf
      intro H11 l11 ys11 sm11 nl11 hl11 pp11
      clean_wf
      refine R.nePps (SqL.of hl11) pp11 (SqL.of (sm11 _ _ hl10)) (pp10.same sm11) ?_
      rw [decide_eq_true rfl]
      have hl11 := sm11 _ _ hl10
      have pp12 := pp10.same sm11
      have tp12 := tp10.same sm11
      have hr11 := sm11 _ _ hr10
      have sf11 := same_seqT sm11 sf10
      have sF11 := same_seqT sm11 sF10
      have d11 := d10.same sm11
      clean_wf
      refine uCanonical rfl sF11 F2 b1 b2 b3 hD ?_
      intro H12 tc tcf tcm X Y Z P1 Q1 R1 V1 sm12 htc scf scm CI
      have hl12 := sm12 _ _ hl11
      have pp13 := pp12.same sm12
      have tp13 := tp12.same sm12
      have hr12 := sm12 _ _ hr11
      have sf12 := same_seqT sm12 sf11
      have sF12 := same_seqT sm12 sF11
      have d12 := d11.same sm12
      clean_wf
      · exact Nat.ble_eq_true_of_le (by show ys7.length + 1 ≤ 100000; omega)
      refine R.refs (S := SqL K _) (xs := ys7 ++ [.ref tc]) (SqL.of ht) ?_
      have snn : Same H12 HN := by array_mem_dec
      have htn := ht
      generalize tn = tl at *
      refine for_list (K := K) (a := tl) (xs := ys7 ++ [.ref tc]) (fun i σ H' => ∃ (x7 : Option V), σ = [some (.ref l), some (.ref p), some (.ref tF), x3, some (.ref tr), some (.ref lr), some (.ref lt), x7, none, none] ∧ Same HN H')
        ⟨_, rfl, Same.refl _⟩ (fun i σ H' hi hPv => ?_) (fun i x σ H' hx hPv => ?_) (fun σ H' hPv => ?_)
      · obtain ⟨x7, rfl, smn⟩ := hPv
        exact smn.seq (SqL.of htn)
      · obtain ⟨x7, rfl, smn⟩ := hPv
        obtain ⟨ax, xs, rfl, sx⟩ : ∃ ax xs, x = V.ref ax ∧ SqT K H12 ax xs := by
          by_cases hi : i < ys7.length
          · rw [List.getElem?_append_left hi] at hx
            obtain ⟨ax, u, v, f, m, e, _, h, _⟩ := pp13.at hx
            exact ⟨ax, _, e, h⟩
          · rw [List.getElem?_append_right (by omega)] at hx
            cases hj : i - ys7.length with
            | zero =>
              rw [hj] at hx
              cases hx
              exact ⟨tc, _, rfl, SqT.of htc⟩
            | succ j =>
              rw [hj] at hx
              cases hx
        have sx := same_seqT (snn.trans smn) sx
        clean_wf
        exact ⟨_, rfl, smn⟩
      obtain ⟨x7, rfl, smn⟩ := hPv
      have s13 := snn.trans smn
      have hl13 := s13 _ _ hl12
      have pp14 := pp13.same s13
      have tp14 := tp13.same s13
      have hr13 := s13 _ _ hr12
      have sf13 := same_seqT s13 sf12
      have sF13 := same_seqT s13 sF12
      have d13 := d12.same s13
      clear s13 smn snn htn sF12 sf12 pp13 tp13 hr12 hl12 d12
      obtain ⟨ba, bb, bc⟩ := red_bd F3 hred
      clean_wf
      refine R.refs (S := SqL K _) (xs := ys7) (SqL.of hl13) ?_
      refine for_list (K := K) (a := lt) (xs := ys7) (fun i σ H3 => ∃ (x3 x7 x8 : Option V), σ = [some (.ref l), some (.ref p), some (.ref tF), x3, some (.ref tr), some (.ref lr), some (.ref lt), x7, x8, none] ∧ Same H' H3)
        ⟨_, _, _, rfl, Same.refl _⟩ (fun i σ H3 hi hPv => ?_) (fun i x σ H3 hx hPv => ?_) (fun σ H14 hPv => ?_)
      · obtain ⟨x3, x7, x8, rfl, smn⟩ := hPv
        exact smn.seq (SqL.of hl13)
      · obtain ⟨x3, x7, x8, rfl, smn⟩ := hPv
        obtain ⟨ax, u, v, f, m, rfl, hat, sx, su, sv⟩ := pp14.at hx
        obtain ⟨hi, e⟩ := ringP_at hat
        injection e with ef em
        obtain ⟨md, me, mb⟩ := mN_ok (f := (a', b', c')) F3 hred i
        rw [ef] at su
        rw [em] at sv
        clear hat ef em
        generalize mN D (a', b', c') i = M at *
        generalize rhoN D i (a', b', c') = g at *
        obtain ⟨X2, Y2, Z2⟩ := g
        obtain ⟨m1, m2, m3, m4⟩ := M
        obtain ⟨z1, z2, z3, z4⟩ := mb
        have z1 := z1.mono (show 14 * i + 1 ≤ 22800 by omega)
        have z2 := z2.mono (show 14 * i + 1 ≤ 22800 by omega)
        have z3 := z3.mono (show 14 * i + 1 ≤ 22800 by omega)
        have z4 := z4.mono (show 14 * i + 1 ≤ 22800 by omega)
        change SqT K H' u [V.int X2, V.int Y2, V.int Z2] at su
        change SqT K H' v [V.int m1, V.int m2, V.int m3, V.int m4] at sv
        have md : m1 * m4 - m2 * m3 = 1 := md
        have q1 : a' * m1 * m1 + b' * m1 * m3 + c' * m3 * m3 = X2 := (congrArg (fun f : Fm => f.1) me).symm
        have q2 : 2 * a' * m1 * m2 + b' * (m1 * m4 + m2 * m3) + 2 * c' * m3 * m4 = Y2 := (congrArg (fun f : Fm => f.2.1) me).symm
        have q3 : a' * m2 * m2 + b' * m2 * m4 + c' * m4 * m4 = Z2 := (congrArg (fun f : Fm => f.2.2) me).symm
        have sx := same_seqT smn sx
        have su := same_seqT smn su
        have sv := same_seqT smn sv
        have sf14 := same_seqT smn sf13
        repeat' (first
          | with_reducible apply R.var
          | with_reducible apply R.gsE
          | ((with_reducible apply R.gsN); (focus exact rfl))
          | with_reducible apply R.lenS
          | ((with_reducible apply R.lenB); exact rfl)
          | ((with_reducible apply R.isEq); exact rfl)
          | with_reducible apply R.op
          | with_reducible apply R.i2
          | with_reducible apply R.i0
          | with_reducible apply R.con
          | with_reducible apply R.cons
          | with_reducible apply R.nil
          | with_reducible apply R.gcons
          | with_reducible apply R.gname
          | ((with_reducible apply R.ixT); (focus ((repeat' (first | with_reducible assumption | with_reducible apply hU | ((with_reducible apply SqT.of); with_reducible assumption) | ((with_reducible apply same_seqT); with_reducible assumption) | ((with_reducible apply kp_seqT); with_reducible assumption) | ((with_reducible apply Dw.same); with_reducible assumption))); done)); exact rfl)
          | ((with_reducible apply R.ixL); (focus ((repeat' (first | with_reducible assumption | ((with_reducible apply SqL.of); with_reducible assumption) | ((with_reducible apply Same.seq); with_reducible assumption) | ((with_reducible apply Kp.seqL); with_reducible assumption) | ((with_reducible apply fresh_ne); with_reducible assumption) | ((with_reducible apply Dw.same); with_reducible assumption))); done)); exact rfl)
          | with_reducible assumption
          | with_reducible apply Bd.mulW
          | with_reducible apply Bd.mul
          | with_reducible apply Bd.add
          | with_reducible apply Bd.sub
          | ((with_reducible apply Bd.l8); exact eq_true (by decide))
          | ((with_reducible apply Bd.lit); exact eq_true (by decide))
          | with_reducible apply Bd.neg
          | with_reducible apply Bd.div
          | with_reducible apply Bd.abs
          | with_reducible apply Bd.mod
          | with_reducible apply Bd.fdiv
          | ((with_reducible apply Bd.om); omega)
          | ((with_reducible apply R.isLe); first | decide | omega)
          | with_reducible apply R.un
          | with_reducible apply R.u1
          | with_reducible apply R.tup
          | with_reducible apply R.lst
          | with_reducible apply R.call
          | with_reducible apply R.callB
          | with_reducible apply R.gtup
          | with_reducible apply R.gnil
          | with_reducible apply R.seq
          | with_reducible apply R.asg
          | with_reducible apply R.ret
          | with_reducible apply R.brk
          | with_reducible apply R.cont
          | with_reducible apply R.next
          | with_reducible apply R.drop
          | with_reducible apply R.par
          | with_reducible apply R.par2
          | with_reducible apply R.ifs
          | with_reducible apply R.tif
          | with_reducible apply R.test
          | with_reducible apply R.tb'
          | with_reducible apply R.isbl
          | with_reducible apply R.cmp
          | with_reducible apply R.t2i
          | with_reducible apply R.intp
          | with_reducible apply R.and
          | with_reducible apply R.or
          | with_reducible apply R.not
          | with_reducible apply R.andV
          | with_reducible apply R.orV
          | with_reducible apply R.notV
          | with_reducible apply R.chain
          | with_reducible apply R.tupL
          | with_reducible apply R.lstL
          | with_reducible apply R.cat
          | with_reducible apply R.absI
          | with_reducible apply R.intI
          | with_reducible apply R.intB
          | with_reducible apply R.eqS
          | with_reducible apply R.eqBl
          | with_reducible apply R.neBl
          | with_reducible apply R.sl
          | with_reducible apply R.noPart
          | with_reducible apply R.part
          | with_reducible apply R.isInt
          | with_reducible apply R.slL
          | with_reducible apply R.isiT
          | with_reducible apply R.isiLst
          | with_reducible apply R.nwT
          | with_reducible apply R.nwL
          | ((with_reducible apply R.mt); intro HN tn sn nn ht)
          | ((with_reducible apply R.ml); intro HN tn sn nn ht)
          | ((with_reducible apply R.isiTupS); focus ((repeat' (first | with_reducible assumption | with_reducible apply hU | ((with_reducible apply SqT.of); with_reducible assumption) | ((with_reducible apply same_seqT); with_reducible assumption) | ((with_reducible apply kp_seqT); with_reducible assumption) | ((with_reducible apply Dw.same); with_reducible assumption))); done))
          | ((with_reducible apply R.ne4); focus ((repeat' (first | with_reducible assumption | with_reducible apply hU | ((with_reducible apply SqT.of); with_reducible assumption) | ((with_reducible apply same_seqT); with_reducible assumption) | ((with_reducible apply kp_seqT); with_reducible assumption) | ((with_reducible apply Dw.same); with_reducible assumption))); done))
          | ((with_reducible apply R.ne3); focus ((repeat' (first | with_reducible assumption | with_reducible apply hU | ((with_reducible apply SqT.of); with_reducible assumption) | ((with_reducible apply same_seqT); with_reducible assumption) | ((with_reducible apply kp_seqT); with_reducible assumption) | ((with_reducible apply Dw.same); with_reducible assumption))); done))
          | ((with_reducible apply R.ne2); focus ((repeat' (first | with_reducible assumption | with_reducible apply hU | ((with_reducible apply SqT.of); with_reducible assumption) | ((with_reducible apply same_seqT); with_reducible assumption) | ((with_reducible apply kp_seqT); with_reducible assumption) | ((with_reducible apply Dw.same); with_reducible assumption))); done))
          | ((with_reducible apply R.eq4); focus ((repeat' (first | with_reducible assumption | with_reducible apply hU | ((with_reducible apply SqT.of); with_reducible assumption) | ((with_reducible apply same_seqT); with_reducible assumption) | ((with_reducible apply kp_seqT); with_reducible assumption) | ((with_reducible apply Dw.same); with_reducible assumption))); done))
          | ((with_reducible apply R.eq3); focus ((repeat' (first | with_reducible assumption | with_reducible apply hU | ((with_reducible apply SqT.of); with_reducible assumption) | ((with_reducible apply same_seqT); with_reducible assumption) | ((with_reducible apply kp_seqT); with_reducible assumption) | ((with_reducible apply Dw.same); with_reducible assumption))); done))
          | ((with_reducible apply R.eq2); focus ((repeat' (first | with_reducible assumption | with_reducible apply hU | ((with_reducible apply SqT.of); with_reducible assumption) | ((with_reducible apply same_seqT); with_reducible assumption) | ((with_reducible apply kp_seqT); with_reducible assumption) | ((with_reducible apply Dw.same); with_reducible assumption))); done))
          | with_reducible apply uLawNext
          | with_reducible apply uLawChange
          | with_reducible apply uMultiply
          | with_reducible apply uLawMul
          | with_reducible apply uLawWorth
          | with_reducible apply uWorth
          | with_reducible apply uDiscriminant
          | with_reducible apply uAct
          | with_reducible apply uLawKind
          | with_reducible apply uLawSquare
          | with_reducible apply uLawRoot
          | with_reducible apply uFloorRoot
          | with_reducible apply uIsReduced
          | with_reducible apply uStepOf
          | with_reducible apply uStepNear
          | with_reducible apply uLawNeighbour
          | with_reducible apply uCycle
          | with_reducible apply uLawRing
          | ((with_reducible apply R.nw); intro HN tn sn ht)
          | with_reducible apply iteT
          | with_reducible apply iteF
          | with_reducible apply R.notT
          | with_reducible apply R.notF
          | ((with_reducible apply SqT.of); with_reducible assumption)
          | ((with_reducible apply SqL.of); with_reducible assumption)
          | ((with_reducible apply same_seqT); with_reducible assumption)
          | ((with_reducible apply sameB); with_reducible assumption)
          | ((with_reducible apply same_at); with_reducible assumption)
          | ((with_reducible apply kp_seqT); with_reducible assumption)
          | ((with_reducible apply Same.seq); with_reducible assumption)
          | ((with_reducible apply Kp.seqL); with_reducible assumption)
          | ((with_reducible apply fresh_ne); with_reducible assumption)
          | ((with_reducible apply Dw.same); with_reducible assumption)
          | ((with_reducible apply R.isEq); exact eq_true (by first | decide | omega))
          | ((with_reducible apply R.isLt); first | decide | omega)
          | ((with_reducible apply R.isLtI); first | decide | omega)
          | ((with_reducible apply R.isLeI); first | decide | omega)
          | ((with_reducible apply R.cdiv); exact rfl)
          | ((with_reducible apply R.cpow); exact rfl)
          | with_reducible apply R.cdivX
          | ((with_reducible apply R.isNe); omega)
          | with_reducible apply hU
          | ((with_reducible apply wayNF); first | exact rfl | exact ⟨rfl, rfl⟩ | exact ⟨rfl, rfl, rfl⟩ | exact ⟨rfl, rfl, rfl, rfl⟩)
          | with_reducible apply R.bm
          | ((with_reducible apply R.bmT); (focus ((first | with_reducible assumption | ((with_reducible apply same_at); with_reducible assumption) | ((with_reducible apply kp_at); with_reducible assumption)); done)))
          | with_reducible apply R.dput
          | with_reducible apply R.dget
          | with_reducible apply R.din
          | with_reducible apply R.dget2
          | with_reducible apply R.forE
          | with_reducible apply R.rng1
          | with_reducible apply R.rng2
          | with_reducible apply R.rg1
          | with_reducible apply R.rg2
          | with_reducible apply R.lcE
          | with_reducible apply R.itup
          | with_reducible apply R.ilst
          )
        refine wayNF md ?_
        repeat' (first
          | with_reducible apply R.var
          | with_reducible apply R.gsE
          | ((with_reducible apply R.gsN); (focus exact rfl))
          | with_reducible apply R.lenS
          | ((with_reducible apply R.lenB); exact rfl)
          | ((with_reducible apply R.isEq); exact rfl)
          | with_reducible apply R.op
          | with_reducible apply R.i2
          | with_reducible apply R.i0
          | with_reducible apply R.con
          | with_reducible apply R.cons
          | with_reducible apply R.nil
          | with_reducible apply R.gcons
          | with_reducible apply R.gname
          | ((with_reducible apply R.ixT); (focus ((repeat' (first | with_reducible assumption | with_reducible apply hU | ((with_reducible apply SqT.of); with_reducible assumption) | ((with_reducible apply same_seqT); with_reducible assumption) | ((with_reducible apply kp_seqT); with_reducible assumption) | ((with_reducible apply Dw.same); with_reducible assumption))); done)); exact rfl)
          | ((with_reducible apply R.ixL); (focus ((repeat' (first | with_reducible assumption | ((with_reducible apply SqL.of); with_reducible assumption) | ((with_reducible apply Same.seq); with_reducible assumption) | ((with_reducible apply Kp.seqL); with_reducible assumption) | ((with_reducible apply fresh_ne); with_reducible assumption) | ((with_reducible apply Dw.same); with_reducible assumption))); done)); exact rfl)
          | with_reducible assumption
          | with_reducible apply Bd.mulW
          | with_reducible apply Bd.mul
          | with_reducible apply Bd.add
          | with_reducible apply Bd.sub
          | ((with_reducible apply Bd.l8); exact eq_true (by decide))
          | ((with_reducible apply Bd.lit); exact eq_true (by decide))
          | with_reducible apply Bd.neg
          | with_reducible apply Bd.div
          | with_reducible apply Bd.abs
          | with_reducible apply Bd.mod
          | with_reducible apply Bd.fdiv
          | ((with_reducible apply Bd.om); omega)
          | ((with_reducible apply R.isLe); first | decide | omega)
          | with_reducible apply R.un
          | with_reducible apply R.u1
          | with_reducible apply R.tup
          | with_reducible apply R.lst
          | with_reducible apply R.call
          | with_reducible apply R.callB
          | with_reducible apply R.gtup
          | with_reducible apply R.gnil
          | with_reducible apply R.seq
          | with_reducible apply R.asg
          | with_reducible apply R.ret
          | with_reducible apply R.brk
          | with_reducible apply R.cont
          | with_reducible apply R.next
          | with_reducible apply R.drop
          | with_reducible apply R.par
          | with_reducible apply R.par2
          | with_reducible apply R.ifs
          | with_reducible apply R.tif
          | with_reducible apply R.test
          | with_reducible apply R.tb'
          | with_reducible apply R.isbl
          | with_reducible apply R.cmp
          | with_reducible apply R.t2i
          | with_reducible apply R.intp
          | with_reducible apply R.and
          | with_reducible apply R.or
          | with_reducible apply R.not
          | with_reducible apply R.andV
          | with_reducible apply R.orV
          | with_reducible apply R.notV
          | with_reducible apply R.chain
          | with_reducible apply R.tupL
          | with_reducible apply R.lstL
          | with_reducible apply R.cat
          | with_reducible apply R.absI
          | with_reducible apply R.intI
          | with_reducible apply R.intB
          | with_reducible apply R.eqS
          | with_reducible apply R.eqBl
          | with_reducible apply R.neBl
          | with_reducible apply R.sl
          | with_reducible apply R.noPart
          | with_reducible apply R.part
          | with_reducible apply R.isInt
          | with_reducible apply R.slL
          | with_reducible apply R.isiT
          | with_reducible apply R.isiLst
          | with_reducible apply R.nwT
          | with_reducible apply R.nwL
          | ((with_reducible apply R.mt); intro HN tn sn nn ht)
          | ((with_reducible apply R.ml); intro HN tn sn nn ht)
          | ((with_reducible apply R.isiTupS); focus ((repeat' (first | with_reducible assumption | with_reducible apply hU | ((with_reducible apply SqT.of); with_reducible assumption) | ((with_reducible apply same_seqT); with_reducible assumption) | ((with_reducible apply kp_seqT); with_reducible assumption) | ((with_reducible apply Dw.same); with_reducible assumption))); done))
          | ((with_reducible apply R.ne4); focus ((repeat' (first | with_reducible assumption | with_reducible apply hU | ((with_reducible apply SqT.of); with_reducible assumption) | ((with_reducible apply same_seqT); with_reducible assumption) | ((with_reducible apply kp_seqT); with_reducible assumption) | ((with_reducible apply Dw.same); with_reducible assumption))); done))
          | ((with_reducible apply R.ne3); focus ((repeat' (first | with_reducible assumption | with_reducible apply hU | ((with_reducible apply SqT.of); with_reducible assumption) | ((with_reducible apply same_seqT); with_reducible assumption) | ((with_reducible apply kp_seqT); with_reducible assumption) | ((with_reducible apply Dw.same); with_reducible assumption))); done))
          | ((with_reducible apply R.ne2); focus ((repeat' (first | with_reducible assumption | with_reducible apply hU | ((with_reducible apply SqT.of); with_reducible assumption) | ((with_reducible apply same_seqT); with_reducible assumption) | ((with_reducible apply kp_seqT); with_reducible assumption) | ((with_reducible apply Dw.same); with_reducible assumption))); done))
          | ((with_reducible apply R.eq4); focus ((repeat' (first | with_reducible assumption | with_reducible apply hU | ((with_reducible apply SqT.of); with_reducible assumption) | ((with_reducible apply same_seqT); with_reducible assumption) | ((with_reducible apply kp_seqT); with_reducible assumption) | ((with_reducible apply Dw.same); with_reducible assumption))); done))
          | ((with_reducible apply R.eq3); focus ((repeat' (first | with_reducible assumption | with_reducible apply hU | ((with_reducible apply SqT.of); with_reducible assumption) | ((with_reducible apply same_seqT); with_reducible assumption) | ((with_reducible apply kp_seqT); with_reducible assumption) | ((with_reducible apply Dw.same); with_reducible assumption))); done))
          | ((with_reducible apply R.eq2); focus ((repeat' (first | with_reducible assumption | with_reducible apply hU | ((with_reducible apply SqT.of); with_reducible assumption) | ((with_reducible apply same_seqT); with_reducible assumption) | ((with_reducible apply kp_seqT); with_reducible assumption) | ((with_reducible apply Dw.same); with_reducible assumption))); done))
          | with_reducible apply uLawNext
          | with_reducible apply uLawChange
          | with_reducible apply uMultiply
          | with_reducible apply uLawMul
          | with_reducible apply uLawWorth
          | with_reducible apply uWorth
          | with_reducible apply uDiscriminant
          | with_reducible apply uAct
          | with_reducible apply uLawKind
          | with_reducible apply uLawSquare
          | with_reducible apply uLawRoot
          | with_reducible apply uFloorRoot
          | with_reducible apply uIsReduced
          | with_reducible apply uStepOf
          | with_reducible apply uStepNear
          | with_reducible apply uLawNeighbour
          | with_reducible apply uCycle
          | with_reducible apply uLawRing
          | ((with_reducible apply R.nw); intro HN tn sn ht)
          | with_reducible apply iteT
          | with_reducible apply iteF
          | with_reducible apply R.notT
          | with_reducible apply R.notF
          | ((with_reducible apply SqT.of); with_reducible assumption)
          | ((with_reducible apply SqL.of); with_reducible assumption)
          | ((with_reducible apply same_seqT); with_reducible assumption)
          | ((with_reducible apply sameB); with_reducible assumption)
          | ((with_reducible apply same_at); with_reducible assumption)
          | ((with_reducible apply kp_seqT); with_reducible assumption)
          | ((with_reducible apply Same.seq); with_reducible assumption)
          | ((with_reducible apply Kp.seqL); with_reducible assumption)
          | ((with_reducible apply fresh_ne); with_reducible assumption)
          | ((with_reducible apply Dw.same); with_reducible assumption)
          | ((with_reducible apply R.isEq); exact eq_true (by first | decide | omega))
          | ((with_reducible apply R.isLt); first | decide | omega)
          | ((with_reducible apply R.isLtI); first | decide | omega)
          | ((with_reducible apply R.isLeI); first | decide | omega)
          | ((with_reducible apply R.cdiv); exact rfl)
          | ((with_reducible apply R.cpow); exact rfl)
          | with_reducible apply R.cdivX
          | ((with_reducible apply R.isNe); omega)
          | with_reducible apply hU
          | ((with_reducible apply wayNF); first | exact rfl | exact ⟨rfl, rfl⟩ | exact ⟨rfl, rfl, rfl⟩ | exact ⟨rfl, rfl, rfl, rfl⟩)
          | with_reducible apply R.bm
          | ((with_reducible apply R.bmT); (focus ((first | with_reducible assumption | ((with_reducible apply same_at); with_reducible assumption) | ((with_reducible apply kp_at); with_reducible assumption)); done)))
          | with_reducible apply R.dput
          | with_reducible apply R.dget
          | with_reducible apply R.din
          | with_reducible apply R.dget2
          | with_reducible apply R.forE
          | with_reducible apply R.rng1
          | with_reducible apply R.rng2
          | with_reducible apply R.rg1
          | with_reducible apply R.rg2
          | with_reducible apply R.lcE
          | with_reducible apply R.itup
          | with_reducible apply R.ilst
          )
        refine ⟨tr, v, a', b', c', m1, m2, m3, m4, 22800, rfl, sf14, sv, ba.mono (by decide), bb.mono (by decide), bc.mono (by decide), z1, z2, z3, z4, by decide, ?_⟩
        repeat' (first
          | with_reducible apply R.var
          | with_reducible apply R.gsE
          | ((with_reducible apply R.gsN); (focus exact rfl))
          | with_reducible apply R.lenS
          | ((with_reducible apply R.lenB); exact rfl)
          | ((with_reducible apply R.isEq); exact rfl)
          | with_reducible apply R.op
          | with_reducible apply R.i2
          | with_reducible apply R.i0
          | with_reducible apply R.con
          | with_reducible apply R.cons
          | with_reducible apply R.nil
          | with_reducible apply R.gcons
          | with_reducible apply R.gname
          | ((with_reducible apply R.ixT); (focus ((repeat' (first | with_reducible assumption | with_reducible apply hU | ((with_reducible apply SqT.of); with_reducible assumption) | ((with_reducible apply same_seqT); with_reducible assumption) | ((with_reducible apply kp_seqT); with_reducible assumption) | ((with_reducible apply Dw.same); with_reducible assumption))); done)); exact rfl)
          | ((with_reducible apply R.ixL); (focus ((repeat' (first | with_reducible assumption | ((with_reducible apply SqL.of); with_reducible assumption) | ((with_reducible apply Same.seq); with_reducible assumption) | ((with_reducible apply Kp.seqL); with_reducible assumption) | ((with_reducible apply fresh_ne); with_reducible assumption) | ((with_reducible apply Dw.same); with_reducible assumption))); done)); exact rfl)
          | with_reducible assumption
          | with_reducible apply Bd.mulW
          | with_reducible apply Bd.mul
          | with_reducible apply Bd.add
          | with_reducible apply Bd.sub
          | ((with_reducible apply Bd.l8); exact eq_true (by decide))
          | ((with_reducible apply Bd.lit); exact eq_true (by decide))
          | with_reducible apply Bd.neg
          | with_reducible apply Bd.div
          | with_reducible apply Bd.abs
          | with_reducible apply Bd.mod
          | with_reducible apply Bd.fdiv
          | ((with_reducible apply Bd.om); omega)
          | ((with_reducible apply R.isLe); first | decide | omega)
          | with_reducible apply R.un
          | with_reducible apply R.u1
          | with_reducible apply R.tup
          | with_reducible apply R.lst
          | with_reducible apply R.call
          | with_reducible apply R.callB
          | with_reducible apply R.gtup
          | with_reducible apply R.gnil
          | with_reducible apply R.seq
          | with_reducible apply R.asg
          | with_reducible apply R.ret
          | with_reducible apply R.brk
          | with_reducible apply R.cont
          | with_reducible apply R.next
          | with_reducible apply R.drop
          | with_reducible apply R.par
          | with_reducible apply R.par2
          | with_reducible apply R.ifs
          | with_reducible apply R.tif
          | with_reducible apply R.test
          | with_reducible apply R.tb'
          | with_reducible apply R.isbl
          | with_reducible apply R.cmp
          | with_reducible apply R.t2i
          | with_reducible apply R.intp
          | with_reducible apply R.and
          | with_reducible apply R.or
          | with_reducible apply R.not
          | with_reducible apply R.andV
          | with_reducible apply R.orV
          | with_reducible apply R.notV
          | with_reducible apply R.chain
          | with_reducible apply R.tupL
          | with_reducible apply R.lstL
          | with_reducible apply R.cat
          | with_reducible apply R.absI
          | with_reducible apply R.intI
          | with_reducible apply R.intB
          | with_reducible apply R.eqS
          | with_reducible apply R.eqBl
          | with_reducible apply R.neBl
          | with_reducible apply R.sl
          | with_reducible apply R.noPart
          | with_reducible apply R.part
          | with_reducible apply R.isInt
          | with_reducible apply R.slL
          | with_reducible apply R.isiT
          | with_reducible apply R.isiLst
          | with_reducible apply R.nwT
          | with_reducible apply R.nwL
          | ((with_reducible apply R.mt); intro HN tn sn nn ht)
          | ((with_reducible apply R.ml); intro HN tn sn nn ht)
          | ((with_reducible apply R.isiTupS); focus ((repeat' (first | with_reducible assumption | with_reducible apply hU | ((with_reducible apply SqT.of); with_reducible assumption) | ((with_reducible apply same_seqT); with_reducible assumption) | ((with_reducible apply kp_seqT); with_reducible assumption) | ((with_reducible apply Dw.same); with_reducible assumption))); done))
          | ((with_reducible apply R.ne4); focus ((repeat' (first | with_reducible assumption | with_reducible apply hU | ((with_reducible apply SqT.of); with_reducible assumption) | ((with_reducible apply same_seqT); with_reducible assumption) | ((with_reducible apply kp_seqT); with_reducible assumption) | ((with_reducible apply Dw.same); with_reducible assumption))); done))
          | ((with_reducible apply R.ne3); focus ((repeat' (first | with_reducible assumption | with_reducible apply hU | ((with_reducible apply SqT.of); with_reducible assumption) | ((with_reducible apply same_seqT); with_reducible assumption) | ((with_reducible apply kp_seqT); with_reducible assumption) | ((with_reducible apply Dw.same); with_reducible assumption))); done))
          | ((with_reducible apply R.ne2); focus ((repeat' (first | with_reducible assumption | with_reducible apply hU | ((with_reducible apply SqT.of); with_reducible assumption) | ((with_reducible apply same_seqT); with_reducible assumption) | ((with_reducible apply kp_seqT); with_reducible assumption) | ((with_reducible apply Dw.same); with_reducible assumption))); done))
          | ((with_reducible apply R.eq4); focus ((repeat' (first | with_reducible assumption | with_reducible apply hU | ((with_reducible apply SqT.of); with_reducible assumption) | ((with_reducible apply same_seqT); with_reducible assumption) | ((with_reducible apply kp_seqT); with_reducible assumption) | ((with_reducible apply Dw.same); with_reducible assumption))); done))
          | ((with_reducible apply R.eq3); focus ((repeat' (first | with_reducible assumption | with_reducible apply hU | ((with_reducible apply SqT.of); with_reducible assumption) | ((with_reducible apply same_seqT); with_reducible assumption) | ((with_reducible apply kp_seqT); with_reducible assumption) | ((with_reducible apply Dw.same); with_reducible assumption))); done))
          | ((with_reducible apply R.eq2); focus ((repeat' (first | with_reducible assumption | with_reducible apply hU | ((with_reducible apply SqT.of); with_reducible assumption) | ((with_reducible apply same_seqT); with_reducible assumption) | ((with_reducible apply kp_seqT); with_reducible assumption) | ((with_reducible apply Dw.same); with_reducible assumption))); done))
          | with_reducible apply uLawNext
          | with_reducible apply uLawChange
          | with_reducible apply uMultiply
          | with_reducible apply uLawMul
          | with_reducible apply uLawWorth
          | with_reducible apply uWorth
          | with_reducible apply uDiscriminant
          | with_reducible apply uAct
          | with_reducible apply uLawKind
          | with_reducible apply uLawSquare
          | with_reducible apply uLawRoot
          | with_reducible apply uFloorRoot
          | with_reducible apply uIsReduced
          | with_reducible apply uStepOf
          | with_reducible apply uStepNear
          | with_reducible apply uLawNeighbour
          | with_reducible apply uCycle
          | with_reducible apply uLawRing
          | ((with_reducible apply R.nw); intro HN tn sn ht)
          | with_reducible apply iteT
          | with_reducible apply iteF
          | with_reducible apply R.notT
          | with_reducible apply R.notF
          | ((with_reducible apply SqT.of); with_reducible assumption)
          | ((with_reducible apply SqL.of); with_reducible assumption)
          | ((with_reducible apply same_seqT); with_reducible assumption)
          | ((with_reducible apply sameB); with_reducible assumption)
          | ((with_reducible apply same_at); with_reducible assumption)
          | ((with_reducible apply kp_seqT); with_reducible assumption)
          | ((with_reducible apply Same.seq); with_reducible assumption)
          | ((with_reducible apply Kp.seqL); with_reducible assumption)
          | ((with_reducible apply fresh_ne); with_reducible assumption)
          | ((with_reducible apply Dw.same); with_reducible assumption)
          | ((with_reducible apply R.isEq); exact eq_true (by first | decide | omega))
          | ((with_reducible apply R.isLt); first | decide | omega)
          | ((with_reducible apply R.isLtI); first | decide | omega)
          | ((with_reducible apply R.isLeI); first | decide | omega)
          | ((with_reducible apply R.cdiv); exact rfl)
          | ((with_reducible apply R.cpow); exact rfl)
          | with_reducible apply R.cdivX
          | ((with_reducible apply R.isNe); omega)
          | with_reducible apply hU
          | ((with_reducible apply wayNF); first | exact rfl | exact ⟨rfl, rfl⟩ | exact ⟨rfl, rfl, rfl⟩ | exact ⟨rfl, rfl, rfl, rfl⟩)
          | with_reducible apply R.bm
          | ((with_reducible apply R.bmT); (focus ((first | with_reducible assumption | ((with_reducible apply same_at); with_reducible assumption) | ((with_reducible apply kp_at); with_reducible assumption)); done)))
          | with_reducible apply R.dput
          | with_reducible apply R.dget
          | with_reducible apply R.din
          | with_reducible apply R.dget2
          | with_reducible apply R.forE
          | with_reducible apply R.rng1
          | with_reducible apply R.rng2
          | with_reducible apply R.rg1
          | with_reducible apply R.rg2
          | with_reducible apply R.lcE
          | with_reducible apply R.itup
          | with_reducible apply R.ilst
          )
        refine wayNF (And.intro q1 (And.intro q2 q3)) ?_
        repeat' (first
          | with_reducible apply R.var
          | with_reducible apply R.gsE
          | ((with_reducible apply R.gsN); (focus exact rfl))
          | with_reducible apply R.lenS
          | ((with_reducible apply R.lenB); exact rfl)
          | ((with_reducible apply R.isEq); exact rfl)
          | with_reducible apply R.op
          | with_reducible apply R.i2
          | with_reducible apply R.i0
          | with_reducible apply R.con
          | with_reducible apply R.cons
          | with_reducible apply R.nil
          | with_reducible apply R.gcons
          | with_reducible apply R.gname
          | ((with_reducible apply R.ixT); (focus ((repeat' (first | with_reducible assumption | with_reducible apply hU | ((with_reducible apply SqT.of); with_reducible assumption) | ((with_reducible apply same_seqT); with_reducible assumption) | ((with_reducible apply kp_seqT); with_reducible assumption) | ((with_reducible apply Dw.same); with_reducible assumption))); done)); exact rfl)
          | ((with_reducible apply R.ixL); (focus ((repeat' (first | with_reducible assumption | ((with_reducible apply SqL.of); with_reducible assumption) | ((with_reducible apply Same.seq); with_reducible assumption) | ((with_reducible apply Kp.seqL); with_reducible assumption) | ((with_reducible apply fresh_ne); with_reducible assumption) | ((with_reducible apply Dw.same); with_reducible assumption))); done)); exact rfl)
          | with_reducible assumption
          | with_reducible apply Bd.mulW
          | with_reducible apply Bd.mul
          | with_reducible apply Bd.add
          | with_reducible apply Bd.sub
          | ((with_reducible apply Bd.l8); exact eq_true (by decide))
          | ((with_reducible apply Bd.lit); exact eq_true (by decide))
          | with_reducible apply Bd.neg
          | with_reducible apply Bd.div
          | with_reducible apply Bd.abs
          | with_reducible apply Bd.mod
          | with_reducible apply Bd.fdiv
          | ((with_reducible apply Bd.om); omega)
          | ((with_reducible apply R.isLe); first | decide | omega)
          | with_reducible apply R.un
          | with_reducible apply R.u1
          | with_reducible apply R.tup
          | with_reducible apply R.lst
          | with_reducible apply R.call
          | with_reducible apply R.callB
          | with_reducible apply R.gtup
          | with_reducible apply R.gnil
          | with_reducible apply R.seq
          | with_reducible apply R.asg
          | with_reducible apply R.ret
          | with_reducible apply R.brk
          | with_reducible apply R.cont
          | with_reducible apply R.next
          | with_reducible apply R.drop
          | with_reducible apply R.par
          | with_reducible apply R.par2
          | with_reducible apply R.ifs
          | with_reducible apply R.tif
          | with_reducible apply R.test
          | with_reducible apply R.tb'
          | with_reducible apply R.isbl
          | with_reducible apply R.cmp
          | with_reducible apply R.t2i
          | with_reducible apply R.intp
          | with_reducible apply R.and
          | with_reducible apply R.or
          | with_reducible apply R.not
          | with_reducible apply R.andV
          | with_reducible apply R.orV
          | with_reducible apply R.notV
          | with_reducible apply R.chain
          | with_reducible apply R.tupL
          | with_reducible apply R.lstL
          | with_reducible apply R.cat
          | with_reducible apply R.absI
          | with_reducible apply R.intI
          | with_reducible apply R.intB
          | with_reducible apply R.eqS
          | with_reducible apply R.eqBl
          | with_reducible apply R.neBl
          | with_reducible apply R.sl
          | with_reducible apply R.noPart
          | with_reducible apply R.part
          | with_reducible apply R.isInt
          | with_reducible apply R.slL
          | with_reducible apply R.isiT
          | with_reducible apply R.isiLst
          | with_reducible apply R.nwT
          | with_reducible apply R.nwL
          | ((with_reducible apply R.mt); intro HN tn sn nn ht)
          | ((with_reducible apply R.ml); intro HN tn sn nn ht)
          | ((with_reducible apply R.isiTupS); focus ((repeat' (first | with_reducible assumption | with_reducible apply hU | ((with_reducible apply SqT.of); with_reducible assumption) | ((with_reducible apply same_seqT); with_reducible assumption) | ((with_reducible apply kp_seqT); with_reducible assumption) | ((with_reducible apply Dw.same); with_reducible assumption))); done))
          | ((with_reducible apply R.ne4); focus ((repeat' (first | with_reducible assumption | with_reducible apply hU | ((with_reducible apply SqT.of); with_reducible assumption) | ((with_reducible apply same_seqT); with_reducible assumption) | ((with_reducible apply kp_seqT); with_reducible assumption) | ((with_reducible apply Dw.same); with_reducible assumption))); done))
          | ((with_reducible apply R.ne3); focus ((repeat' (first | with_reducible assumption | with_reducible apply hU | ((with_reducible apply SqT.of); with_reducible assumption) | ((with_reducible apply same_seqT); with_reducible assumption) | ((with_reducible apply kp_seqT); with_reducible assumption) | ((with_reducible apply Dw.same); with_reducible assumption))); done))
          | ((with_reducible apply R.ne2); focus ((repeat' (first | with_reducible assumption | with_reducible apply hU | ((with_reducible apply SqT.of); with_reducible assumption) | ((with_reducible apply same_seqT); with_reducible assumption) | ((with_reducible apply kp_seqT); with_reducible assumption) | ((with_reducible apply Dw.same); with_reducible assumption))); done))
          | ((with_reducible apply R.eq4); focus ((repeat' (first | with_reducible assumption | with_reducible apply hU | ((with_reducible apply SqT.of); with_reducible assumption) | ((with_reducible apply same_seqT); with_reducible assumption) | ((with_reducible apply kp_seqT); with_reducible assumption) | ((with_reducible apply Dw.same); with_reducible assumption))); done))
          | ((with_reducible apply R.eq3); focus ((repeat' (first | with_reducible assumption | with_reducible apply hU | ((with_reducible apply SqT.of); with_reducible assumption) | ((with_reducible apply same_seqT); with_reducible assumption) | ((with_reducible apply kp_seqT); with_reducible assumption) | ((with_reducible apply Dw.same); with_reducible assumption))); done))
          | ((with_reducible apply R.eq2); focus ((repeat' (first | with_reducible assumption | with_reducible apply hU | ((with_reducible apply SqT.of); with_reducible assumption) | ((with_reducible apply same_seqT); with_reducible assumption) | ((with_reducible apply kp_seqT); with_reducible assumption) | ((with_reducible apply Dw.same); with_reducible assumption))); done))
          | with_reducible apply uLawNext
          | with_reducible apply uLawChange
          | with_reducible apply uMultiply
          | with_reducible apply uLawMul
          | with_reducible apply uLawWorth
          | with_reducible apply uWorth
          | with_reducible apply uDiscriminant
          | with_reducible apply uAct
          | with_reducible apply uLawKind
          | with_reducible apply uLawSquare
          | with_reducible apply uLawRoot
          | with_reducible apply uFloorRoot
          | with_reducible apply uIsReduced
          | with_reducible apply uStepOf
          | with_reducible apply uStepNear
          | with_reducible apply uLawNeighbour
          | with_reducible apply uCycle
          | with_reducible apply uLawRing
          | ((with_reducible apply R.nw); intro HN tn sn ht)
          | with_reducible apply iteT
          | with_reducible apply iteF
          | with_reducible apply R.notT
          | with_reducible apply R.notF
          | ((with_reducible apply SqT.of); with_reducible assumption)
          | ((with_reducible apply SqL.of); with_reducible assumption)
          | ((with_reducible apply same_seqT); with_reducible assumption)
          | ((with_reducible apply sameB); with_reducible assumption)
          | ((with_reducible apply same_at); with_reducible assumption)
          | ((with_reducible apply kp_seqT); with_reducible assumption)
          | ((with_reducible apply Same.seq); with_reducible assumption)
          | ((with_reducible apply Kp.seqL); with_reducible assumption)
          | ((with_reducible apply fresh_ne); with_reducible assumption)
          | ((with_reducible apply Dw.same); with_reducible assumption)
          | ((with_reducible apply R.isEq); exact eq_true (by first | decide | omega))
          | ((with_reducible apply R.isLt); first | decide | omega)
          | ((with_reducible apply R.isLtI); first | decide | omega)
          | ((with_reducible apply R.isLeI); first | decide | omega)
          | ((with_reducible apply R.cdiv); exact rfl)
          | ((with_reducible apply R.cpow); exact rfl)
          | with_reducible apply R.cdivX
          | ((with_reducible apply R.isNe); omega)
          | with_reducible apply hU
          | ((with_reducible apply wayNF); first | exact rfl | exact ⟨rfl, rfl⟩ | exact ⟨rfl, rfl, rfl⟩ | exact ⟨rfl, rfl, rfl, rfl⟩)
          | with_reducible apply R.bm
          | ((with_reducible apply R.bmT); (focus ((first | with_reducible assumption | ((with_reducible apply same_at); with_reducible assumption) | ((with_reducible apply kp_at); with_reducible assumption)); done)))
          | with_reducible apply R.dput
          | with_reducible apply R.dget
          | with_reducible apply R.din
          | with_reducible apply R.dget2
          | with_reducible apply R.forE
          | with_reducible apply R.rng1
          | with_reducible apply R.rng2
          | with_reducible apply R.rg1
          | with_reducible apply R.rg2
          | with_reducible apply R.lcE
          | with_reducible apply R.itup
          | with_reducible apply R.ilst
          )
        exact ⟨_, _, _, rfl, by array_mem_dec⟩
      obtain ⟨x3, x7, x8, rfl, s14⟩ := hPv
      have tp15 := tp14.same s14
      have hr14 := s14 _ _ hr13
      have sF14 := same_seqT s14 sF13
      have d14 := d13.same s14
      clear s14 sF13 sf13 tp14 hr13 hl13 d13
      clean_wf
      refine uCanonical rfl sF14 F2 b1 b2 b3 hD ?_
      intro H15 td tdf tdm X2 Y2 Z2 P2 Q2 R2 V2 sm15 htd sdf sdm CI2
      have tp16 := tp15.same sm15
      have hr15 := sm15 _ _ hr14
      have sF15 := same_seqT sm15 sF14
      have d15 := d14.same sm15
      clean_wf
      rw [ringF_cons] at tp16
      refine R.minTps (SqL.of hr15) tp16 ?_
      intro i tx u hat stx hmin
      rw [← ringF_cons] at hat
      have eu := ringF_at hat
      rw [eu] at stx hmin
      have CF : CanF D (A, B, C) (rhoN D i (a', b', c')) := ⟨(a', b', c'), k, (p', q', r', s'), F3, hred, RI.det, fm_ext RI.ea RI.eb RI.ec, cy, hmin⟩
      have eh := canF_uniq (n := (1, 0, 0, 1)) hD CF CI2.from_ rfl (actF_one _).symm
      rw [← eh] at stx
      change SqT K H15 tx [V.int X2, V.int Y2, V.int Z2] at stx
      obtain ⟨cd, ca, ⟨w1, w2, w3, w4⟩, cf⟩ := CI2
      have cd : P2 * V2 - Q2 * R2 = 1 := cd
      have q1 : A * P2 * P2 + B * P2 * R2 + C * R2 * R2 = X2 := (congrArg (fun f : Fm => f.1) ca).symm
      have q2 : 2 * A * P2 * Q2 + B * (P2 * V2 + Q2 * R2) + 2 * C * R2 * V2 = Y2 := (congrArg (fun f : Fm => f.2.1) ca).symm
      have q3 : A * Q2 * Q2 + B * Q2 * V2 + C * V2 * V2 = Z2 := (congrArg (fun f : Fm => f.2.2) ca).symm
      have bA : Bd 20 A := Bd.of hA (by decide)
      have bB : Bd 20 B := Bd.of hB (by decide)
      have bC : Bd 20 C := Bd.of hC (by decide)
      repeat' (first
        | with_reducible apply R.var
        | with_reducible apply R.gsE
        | ((with_reducible apply R.gsN); (focus exact rfl))
        | with_reducible apply R.lenS
        | ((with_reducible apply R.lenB); exact rfl)
        | ((with_reducible apply R.isEq); exact rfl)
        | with_reducible apply R.op
        | with_reducible apply R.i2
        | with_reducible apply R.i0
        | with_reducible apply R.con
        | with_reducible apply R.cons
        | with_reducible apply R.nil
        | with_reducible apply R.gcons
        | with_reducible apply R.gname
        | ((with_reducible apply R.ixT); (focus ((repeat' (first | with_reducible assumption | with_reducible apply hU | ((with_reducible apply SqT.of); with_reducible assumption) | ((with_reducible apply same_seqT); with_reducible assumption) | ((with_reducible apply kp_seqT); with_reducible assumption) | ((with_reducible apply Dw.same); with_reducible assumption))); done)); exact rfl)
        | ((with_reducible apply R.ixL); (focus ((repeat' (first | with_reducible assumption | ((with_reducible apply SqL.of); with_reducible assumption) | ((with_reducible apply Same.seq); with_reducible assumption) | ((with_reducible apply Kp.seqL); with_reducible assumption) | ((with_reducible apply fresh_ne); with_reducible assumption) | ((with_reducible apply Dw.same); with_reducible assumption))); done)); exact rfl)
        | with_reducible assumption
        | with_reducible apply Bd.mulW
        | with_reducible apply Bd.mul
        | with_reducible apply Bd.add
        | with_reducible apply Bd.sub
        | ((with_reducible apply Bd.l8); exact eq_true (by decide))
        | ((with_reducible apply Bd.lit); exact eq_true (by decide))
        | with_reducible apply Bd.neg
        | with_reducible apply Bd.div
        | with_reducible apply Bd.abs
        | with_reducible apply Bd.mod
        | with_reducible apply Bd.fdiv
        | ((with_reducible apply Bd.om); omega)
        | ((with_reducible apply R.isLe); first | decide | omega)
        | with_reducible apply R.un
        | with_reducible apply R.u1
        | with_reducible apply R.tup
        | with_reducible apply R.lst
        | with_reducible apply R.call
        | with_reducible apply R.callB
        | with_reducible apply R.gtup
        | with_reducible apply R.gnil
        | with_reducible apply R.seq
        | with_reducible apply R.asg
        | with_reducible apply R.ret
        | with_reducible apply R.brk
        | with_reducible apply R.cont
        | with_reducible apply R.next
        | with_reducible apply R.drop
        | with_reducible apply R.par
        | with_reducible apply R.par2
        | with_reducible apply R.ifs
        | with_reducible apply R.tif
        | with_reducible apply R.test
        | with_reducible apply R.tb'
        | with_reducible apply R.isbl
        | with_reducible apply R.cmp
        | with_reducible apply R.t2i
        | with_reducible apply R.intp
        | with_reducible apply R.and
        | with_reducible apply R.or
        | with_reducible apply R.not
        | with_reducible apply R.andV
        | with_reducible apply R.orV
        | with_reducible apply R.notV
        | with_reducible apply R.chain
        | with_reducible apply R.tupL
        | with_reducible apply R.lstL
        | with_reducible apply R.cat
        | with_reducible apply R.absI
        | with_reducible apply R.intI
        | with_reducible apply R.intB
        | with_reducible apply R.eqS
        | with_reducible apply R.eqBl
        | with_reducible apply R.neBl
        | with_reducible apply R.sl
        | with_reducible apply R.noPart
        | with_reducible apply R.part
        | with_reducible apply R.isInt
        | with_reducible apply R.slL
        | with_reducible apply R.isiT
        | with_reducible apply R.isiLst
        | with_reducible apply R.nwT
        | with_reducible apply R.nwL
        | ((with_reducible apply R.mt); intro HN tn sn nn ht)
        | ((with_reducible apply R.ml); intro HN tn sn nn ht)
        | ((with_reducible apply R.isiTupS); focus ((repeat' (first | with_reducible assumption | with_reducible apply hU | ((with_reducible apply SqT.of); with_reducible assumption) | ((with_reducible apply same_seqT); with_reducible assumption) | ((with_reducible apply kp_seqT); with_reducible assumption) | ((with_reducible apply Dw.same); with_reducible assumption))); done))
        | ((with_reducible apply R.ne4); focus ((repeat' (first | with_reducible assumption | with_reducible apply hU | ((with_reducible apply SqT.of); with_reducible assumption) | ((with_reducible apply same_seqT); with_reducible assumption) | ((with_reducible apply kp_seqT); with_reducible assumption) | ((with_reducible apply Dw.same); with_reducible assumption))); done))
        | ((with_reducible apply R.ne3); focus ((repeat' (first | with_reducible assumption | with_reducible apply hU | ((with_reducible apply SqT.of); with_reducible assumption) | ((with_reducible apply same_seqT); with_reducible assumption) | ((with_reducible apply kp_seqT); with_reducible assumption) | ((with_reducible apply Dw.same); with_reducible assumption))); done))
        | ((with_reducible apply R.ne2); focus ((repeat' (first | with_reducible assumption | with_reducible apply hU | ((with_reducible apply SqT.of); with_reducible assumption) | ((with_reducible apply same_seqT); with_reducible assumption) | ((with_reducible apply kp_seqT); with_reducible assumption) | ((with_reducible apply Dw.same); with_reducible assumption))); done))
        | ((with_reducible apply R.eq4); focus ((repeat' (first | with_reducible assumption | with_reducible apply hU | ((with_reducible apply SqT.of); with_reducible assumption) | ((with_reducible apply same_seqT); with_reducible assumption) | ((with_reducible apply kp_seqT); with_reducible assumption) | ((with_reducible apply Dw.same); with_reducible assumption))); done))
        | ((with_reducible apply R.eq3); focus ((repeat' (first | with_reducible assumption | with_reducible apply hU | ((with_reducible apply SqT.of); with_reducible assumption) | ((with_reducible apply same_seqT); with_reducible assumption) | ((with_reducible apply kp_seqT); with_reducible assumption) | ((with_reducible apply Dw.same); with_reducible assumption))); done))
        | ((with_reducible apply R.eq2); focus ((repeat' (first | with_reducible assumption | with_reducible apply hU | ((with_reducible apply SqT.of); with_reducible assumption) | ((with_reducible apply same_seqT); with_reducible assumption) | ((with_reducible apply kp_seqT); with_reducible assumption) | ((with_reducible apply Dw.same); with_reducible assumption))); done))
        | with_reducible apply uLawNext
        | with_reducible apply uLawChange
        | with_reducible apply uMultiply
        | with_reducible apply uLawMul
        | with_reducible apply uLawWorth
        | with_reducible apply uWorth
        | with_reducible apply uDiscriminant
        | with_reducible apply uAct
        | with_reducible apply uLawKind
        | with_reducible apply uLawSquare
        | with_reducible apply uLawRoot
        | with_reducible apply uFloorRoot
        | with_reducible apply uIsReduced
        | with_reducible apply uStepOf
        | with_reducible apply uStepNear
        | with_reducible apply uLawNeighbour
        | with_reducible apply uCycle
        | with_reducible apply uLawRing
        | ((with_reducible apply R.nw); intro HN tn sn ht)
        | with_reducible apply iteT
        | with_reducible apply iteF
        | with_reducible apply R.notT
        | with_reducible apply R.notF
        | ((with_reducible apply SqT.of); with_reducible assumption)
        | ((with_reducible apply SqL.of); with_reducible assumption)
        | ((with_reducible apply same_seqT); with_reducible assumption)
        | ((with_reducible apply sameB); with_reducible assumption)
        | ((with_reducible apply same_at); with_reducible assumption)
        | ((with_reducible apply kp_seqT); with_reducible assumption)
        | ((with_reducible apply Same.seq); with_reducible assumption)
        | ((with_reducible apply Kp.seqL); with_reducible assumption)
        | ((with_reducible apply fresh_ne); with_reducible assumption)
        | ((with_reducible apply Dw.same); with_reducible assumption)
        | ((with_reducible apply R.isEq); exact eq_true (by first | decide | omega))
        | ((with_reducible apply R.isLt); first | decide | omega)
        | ((with_reducible apply R.isLtI); first | decide | omega)
        | ((with_reducible apply R.isLeI); first | decide | omega)
        | ((with_reducible apply R.cdiv); exact rfl)
        | ((with_reducible apply R.cpow); exact rfl)
        | with_reducible apply R.cdivX
        | ((with_reducible apply R.isNe); omega)
        | with_reducible apply hU
        | ((with_reducible apply wayNF); first | exact rfl | exact ⟨rfl, rfl⟩ | exact ⟨rfl, rfl, rfl⟩ | exact ⟨rfl, rfl, rfl, rfl⟩)
        | with_reducible apply R.bm
        | ((with_reducible apply R.bmT); (focus ((first | with_reducible assumption | ((with_reducible apply same_at); with_reducible assumption) | ((with_reducible apply kp_at); with_reducible assumption)); done)))
        | with_reducible apply R.dput
        | with_reducible apply R.dget
        | with_reducible apply R.din
        | with_reducible apply R.dget2
        | with_reducible apply R.forE
        | with_reducible apply R.rng1
        | with_reducible apply R.rng2
        | with_reducible apply R.rg1
        | with_reducible apply R.rg2
        | with_reducible apply R.lcE
        | with_reducible apply R.itup
        | with_reducible apply R.ilst
        )
      refine ⟨tF, tdm, A, B, C, P2, Q2, R2, V2, 36901, rfl, sF15, sdm, bA.mono (by decide), bB.mono (by decide), bC.mono (by decide), w1, w2, w3, w4, by decide, ?_⟩
      repeat' (first
        | with_reducible apply R.var
        | with_reducible apply R.gsE
        | ((with_reducible apply R.gsN); (focus exact rfl))
        | with_reducible apply R.lenS
        | ((with_reducible apply R.lenB); exact rfl)
        | ((with_reducible apply R.isEq); exact rfl)
        | with_reducible apply R.op
        | with_reducible apply R.i2
        | with_reducible apply R.i0
        | with_reducible apply R.con
        | with_reducible apply R.cons
        | with_reducible apply R.nil
        | with_reducible apply R.gcons
        | with_reducible apply R.gname
        | ((with_reducible apply R.ixT); (focus ((repeat' (first | with_reducible assumption | with_reducible apply hU | ((with_reducible apply SqT.of); with_reducible assumption) | ((with_reducible apply same_seqT); with_reducible assumption) | ((with_reducible apply kp_seqT); with_reducible assumption) | ((with_reducible apply Dw.same); with_reducible assumption))); done)); exact rfl)
        | ((with_reducible apply R.ixL); (focus ((repeat' (first | with_reducible assumption | ((with_reducible apply SqL.of); with_reducible assumption) | ((with_reducible apply Same.seq); with_reducible assumption) | ((with_reducible apply Kp.seqL); with_reducible assumption) | ((with_reducible apply fresh_ne); with_reducible assumption) | ((with_reducible apply Dw.same); with_reducible assumption))); done)); exact rfl)
        | with_reducible assumption
        | with_reducible apply Bd.mulW
        | with_reducible apply Bd.mul
        | with_reducible apply Bd.add
        | with_reducible apply Bd.sub
        | ((with_reducible apply Bd.l8); exact eq_true (by decide))
        | ((with_reducible apply Bd.lit); exact eq_true (by decide))
        | with_reducible apply Bd.neg
        | with_reducible apply Bd.div
        | with_reducible apply Bd.abs
        | with_reducible apply Bd.mod
        | with_reducible apply Bd.fdiv
        | ((with_reducible apply Bd.om); omega)
        | ((with_reducible apply R.isLe); first | decide | omega)
        | with_reducible apply R.un
        | with_reducible apply R.u1
        | with_reducible apply R.tup
        | with_reducible apply R.lst
        | with_reducible apply R.call
        | with_reducible apply R.callB
        | with_reducible apply R.gtup
        | with_reducible apply R.gnil
        | with_reducible apply R.seq
        | with_reducible apply R.asg
        | with_reducible apply R.ret
        | with_reducible apply R.brk
        | with_reducible apply R.cont
        | with_reducible apply R.next
        | with_reducible apply R.drop
        | with_reducible apply R.par
        | with_reducible apply R.par2
        | with_reducible apply R.ifs
        | with_reducible apply R.tif
        | with_reducible apply R.test
        | with_reducible apply R.tb'
        | with_reducible apply R.isbl
        | with_reducible apply R.cmp
        | with_reducible apply R.t2i
        | with_reducible apply R.intp
        | with_reducible apply R.and
        | with_reducible apply R.or
        | with_reducible apply R.not
        | with_reducible apply R.andV
        | with_reducible apply R.orV
        | with_reducible apply R.notV
        | with_reducible apply R.chain
        | with_reducible apply R.tupL
        | with_reducible apply R.lstL
        | with_reducible apply R.cat
        | with_reducible apply R.absI
        | with_reducible apply R.intI
        | with_reducible apply R.intB
        | with_reducible apply R.eqS
        | with_reducible apply R.eqBl
        | with_reducible apply R.neBl
        | with_reducible apply R.sl
        | with_reducible apply R.noPart
        | with_reducible apply R.part
        | with_reducible apply R.isInt
        | with_reducible apply R.slL
        | with_reducible apply R.isiT
        | with_reducible apply R.isiLst
        | with_reducible apply R.nwT
        | with_reducible apply R.nwL
        | ((with_reducible apply R.mt); intro HN tn sn nn ht)
        | ((with_reducible apply R.ml); intro HN tn sn nn ht)
        | ((with_reducible apply R.isiTupS); focus ((repeat' (first | with_reducible assumption | with_reducible apply hU | ((with_reducible apply SqT.of); with_reducible assumption) | ((with_reducible apply same_seqT); with_reducible assumption) | ((with_reducible apply kp_seqT); with_reducible assumption) | ((with_reducible apply Dw.same); with_reducible assumption))); done))
        | ((with_reducible apply R.ne4); focus ((repeat' (first | with_reducible assumption | with_reducible apply hU | ((with_reducible apply SqT.of); with_reducible assumption) | ((with_reducible apply same_seqT); with_reducible assumption) | ((with_reducible apply kp_seqT); with_reducible assumption) | ((with_reducible apply Dw.same); with_reducible assumption))); done))
        | ((with_reducible apply R.ne3); focus ((repeat' (first | with_reducible assumption | with_reducible apply hU | ((with_reducible apply SqT.of); with_reducible assumption) | ((with_reducible apply same_seqT); with_reducible assumption) | ((with_reducible apply kp_seqT); with_reducible assumption) | ((with_reducible apply Dw.same); with_reducible assumption))); done))
        | ((with_reducible apply R.ne2); focus ((repeat' (first | with_reducible assumption | with_reducible apply hU | ((with_reducible apply SqT.of); with_reducible assumption) | ((with_reducible apply same_seqT); with_reducible assumption) | ((with_reducible apply kp_seqT); with_reducible assumption) | ((with_reducible apply Dw.same); with_reducible assumption))); done))
        | ((with_reducible apply R.eq4); focus ((repeat' (first | with_reducible assumption | with_reducible apply hU | ((with_reducible apply SqT.of); with_reducible assumption) | ((with_reducible apply same_seqT); with_reducible assumption) | ((with_reducible apply kp_seqT); with_reducible assumption) | ((with_reducible apply Dw.same); with_reducible assumption))); done))
        | ((with_reducible apply R.eq3); focus ((repeat' (first | with_reducible assumption | with_reducible apply hU | ((with_reducible apply SqT.of); with_reducible assumption) | ((with_reducible apply same_seqT); with_reducible assumption) | ((with_reducible apply kp_seqT); with_reducible assumption) | ((with_reducible apply Dw.same); with_reducible assumption))); done))
        | ((with_reducible apply R.eq2); focus ((repeat' (first | with_reducible assumption | with_reducible apply hU | ((with_reducible apply SqT.of); with_reducible assumption) | ((with_reducible apply same_seqT); with_reducible assumption) | ((with_reducible apply kp_seqT); with_reducible assumption) | ((with_reducible apply Dw.same); with_reducible assumption))); done))
        | with_reducible apply uLawNext
        | with_reducible apply uLawChange
        | with_reducible apply uMultiply
        | with_reducible apply uLawMul
        | with_reducible apply uLawWorth
        | with_reducible apply uWorth
        | with_reducible apply uDiscriminant
        | with_reducible apply uAct
        | with_reducible apply uLawKind
        | with_reducible apply uLawSquare
        | with_reducible apply uLawRoot
        | with_reducible apply uFloorRoot
        | with_reducible apply uIsReduced
        | with_reducible apply uStepOf
        | with_reducible apply uStepNear
        | with_reducible apply uLawNeighbour
        | with_reducible apply uCycle
        | with_reducible apply uLawRing
        | ((with_reducible apply R.nw); intro HN tn sn ht)
        | with_reducible apply iteT
        | with_reducible apply iteF
        | with_reducible apply R.notT
        | with_reducible apply R.notF
        | ((with_reducible apply SqT.of); with_reducible assumption)
        | ((with_reducible apply SqL.of); with_reducible assumption)
        | ((with_reducible apply same_seqT); with_reducible assumption)
        | ((with_reducible apply sameB); with_reducible assumption)
        | ((with_reducible apply same_at); with_reducible assumption)
        | ((with_reducible apply kp_seqT); with_reducible assumption)
        | ((with_reducible apply Same.seq); with_reducible assumption)
        | ((with_reducible apply Kp.seqL); with_reducible assumption)
        | ((with_reducible apply fresh_ne); with_reducible assumption)
        | ((with_reducible apply Dw.same); with_reducible assumption)
        | ((with_reducible apply R.isEq); exact eq_true (by first | decide | omega))
        | ((with_reducible apply R.isLt); first | decide | omega)
        | ((with_reducible apply R.isLtI); first | decide | omega)
        | ((with_reducible apply R.isLeI); first | decide | omega)
        | ((with_reducible apply R.cdiv); exact rfl)
        | ((with_reducible apply R.cpow); exact rfl)
        | with_reducible apply R.cdivX
        | ((with_reducible apply R.isNe); omega)
        | with_reducible apply hU
        | ((with_reducible apply wayNF); first | exact rfl | exact ⟨rfl, rfl⟩ | exact ⟨rfl, rfl, rfl⟩ | exact ⟨rfl, rfl, rfl, rfl⟩)
        | with_reducible apply R.bm
        | ((with_reducible apply R.bmT); (focus ((first | with_reducible assumption | ((with_reducible apply same_at); with_reducible assumption) | ((with_reducible apply kp_at); with_reducible assumption)); done)))
        | with_reducible apply R.dput
        | with_reducible apply R.dget
        | with_reducible apply R.din
        | with_reducible apply R.dget2
        | with_reducible apply R.forE
        | with_reducible apply R.rng1
        | with_reducible apply R.rng2
        | with_reducible apply R.rg1
        | with_reducible apply R.rg2
        | with_reducible apply R.lcE
        | with_reducible apply R.itup
        | with_reducible apply R.ilst
        )
      refine wayNF (And.intro q1 (And.intro q2 q3)) ?_
      repeat' (first
        | with_reducible apply R.var
        | with_reducible apply R.gsE
        | ((with_reducible apply R.gsN); (focus exact rfl))
        | with_reducible apply R.lenS
        | ((with_reducible apply R.lenB); exact rfl)
        | ((with_reducible apply R.isEq); exact rfl)
        | with_reducible apply R.op
        | with_reducible apply R.i2
        | with_reducible apply R.i0
        | with_reducible apply R.con
        | with_reducible apply R.cons
        | with_reducible apply R.nil
        | with_reducible apply R.gcons
        | with_reducible apply R.gname
        | ((with_reducible apply R.ixT); (focus ((repeat' (first | with_reducible assumption | with_reducible apply hU | ((with_reducible apply SqT.of); with_reducible assumption) | ((with_reducible apply same_seqT); with_reducible assumption) | ((with_reducible apply kp_seqT); with_reducible assumption) | ((with_reducible apply Dw.same); with_reducible assumption))); done)); exact rfl)
        | ((with_reducible apply R.ixL); (focus ((repeat' (first | with_reducible assumption | ((with_reducible apply SqL.of); with_reducible assumption) | ((with_reducible apply Same.seq); with_reducible assumption) | ((with_reducible apply Kp.seqL); with_reducible assumption) | ((with_reducible apply fresh_ne); with_reducible assumption) | ((with_reducible apply Dw.same); with_reducible assumption))); done)); exact rfl)
        | with_reducible assumption
        | with_reducible apply Bd.mulW
        | with_reducible apply Bd.mul
        | with_reducible apply Bd.add
        | with_reducible apply Bd.sub
        | ((with_reducible apply Bd.l8); exact eq_true (by decide))
        | ((with_reducible apply Bd.lit); exact eq_true (by decide))
        | with_reducible apply Bd.neg
        | with_reducible apply Bd.div
        | with_reducible apply Bd.abs
        | with_reducible apply Bd.mod
        | with_reducible apply Bd.fdiv
        | ((with_reducible apply Bd.om); omega)
        | ((with_reducible apply R.isLe); first | decide | omega)
        | with_reducible apply R.un
        | with_reducible apply R.u1
        | with_reducible apply R.tup
        | with_reducible apply R.lst
        | with_reducible apply R.call
        | with_reducible apply R.callB
        | with_reducible apply R.gtup
        | with_reducible apply R.gnil
        | with_reducible apply R.seq
        | with_reducible apply R.asg
        | with_reducible apply R.ret
        | with_reducible apply R.brk
        | with_reducible apply R.cont
        | with_reducible apply R.next
        | with_reducible apply R.drop
        | with_reducible apply R.par
        | with_reducible apply R.par2
        | with_reducible apply R.ifs
        | with_reducible apply R.tif
        | with_reducible apply R.test
        | with_reducible apply R.tb'
        | with_reducible apply R.isbl
        | with_reducible apply R.cmp
        | with_reducible apply R.t2i
        | with_reducible apply R.intp
        | with_reducible apply R.and
        | with_reducible apply R.or
        | with_reducible apply R.not
        | with_reducible apply R.andV
        | with_reducible apply R.orV
        | with_reducible apply R.notV
        | with_reducible apply R.chain
        | with_reducible apply R.tupL
        | with_reducible apply R.lstL
        | with_reducible apply R.cat
        | with_reducible apply R.absI
        | with_reducible apply R.intI
        | with_reducible apply R.intB
        | with_reducible apply R.eqS
        | with_reducible apply R.eqBl
        | with_reducible apply R.neBl
        | with_reducible apply R.sl
        | with_reducible apply R.noPart
        | with_reducible apply R.part
        | with_reducible apply R.isInt
        | with_reducible apply R.slL
        | with_reducible apply R.isiT
        | with_reducible apply R.isiLst
        | with_reducible apply R.nwT
        | with_reducible apply R.nwL
        | ((with_reducible apply R.mt); intro HN tn sn nn ht)
        | ((with_reducible apply R.ml); intro HN tn sn nn ht)
        | ((with_reducible apply R.isiTupS); focus ((repeat' (first | with_reducible assumption | with_reducible apply hU | ((with_reducible apply SqT.of); with_reducible assumption) | ((with_reducible apply same_seqT); with_reducible assumption) | ((with_reducible apply kp_seqT); with_reducible assumption) | ((with_reducible apply Dw.same); with_reducible assumption))); done))
        | ((with_reducible apply R.ne4); focus ((repeat' (first | with_reducible assumption | with_reducible apply hU | ((with_reducible apply SqT.of); with_reducible assumption) | ((with_reducible apply same_seqT); with_reducible assumption) | ((with_reducible apply kp_seqT); with_reducible assumption) | ((with_reducible apply Dw.same); with_reducible assumption))); done))
        | ((with_reducible apply R.ne3); focus ((repeat' (first | with_reducible assumption | with_reducible apply hU | ((with_reducible apply SqT.of); with_reducible assumption) | ((with_reducible apply same_seqT); with_reducible assumption) | ((with_reducible apply kp_seqT); with_reducible assumption) | ((with_reducible apply Dw.same); with_reducible assumption))); done))
        | ((with_reducible apply R.ne2); focus ((repeat' (first | with_reducible assumption | with_reducible apply hU | ((with_reducible apply SqT.of); with_reducible assumption) | ((with_reducible apply same_seqT); with_reducible assumption) | ((with_reducible apply kp_seqT); with_reducible assumption) | ((with_reducible apply Dw.same); with_reducible assumption))); done))
        | ((with_reducible apply R.eq4); focus ((repeat' (first | with_reducible assumption | with_reducible apply hU | ((with_reducible apply SqT.of); with_reducible assumption) | ((with_reducible apply same_seqT); with_reducible assumption) | ((with_reducible apply kp_seqT); with_reducible assumption) | ((with_reducible apply Dw.same); with_reducible assumption))); done))
        | ((with_reducible apply R.eq3); focus ((repeat' (first | with_reducible assumption | with_reducible apply hU | ((with_reducible apply SqT.of); with_reducible assumption) | ((with_reducible apply same_seqT); with_reducible assumption) | ((with_reducible apply kp_seqT); with_reducible assumption) | ((with_reducible apply Dw.same); with_reducible assumption))); done))
        | ((with_reducible apply R.eq2); focus ((repeat' (first | with_reducible assumption | with_reducible apply hU | ((with_reducible apply SqT.of); with_reducible assumption) | ((with_reducible apply same_seqT); with_reducible assumption) | ((with_reducible apply kp_seqT); with_reducible assumption) | ((with_reducible apply Dw.same); with_reducible assumption))); done))
        | with_reducible apply uLawNext
        | with_reducible apply uLawChange
        | with_reducible apply uMultiply
        | with_reducible apply uLawMul
        | with_reducible apply uLawWorth
        | with_reducible apply uWorth
        | with_reducible apply uDiscriminant
        | with_reducible apply uAct
        | with_reducible apply uLawKind
        | with_reducible apply uLawSquare
        | with_reducible apply uLawRoot
        | with_reducible apply uFloorRoot
        | with_reducible apply uIsReduced
        | with_reducible apply uStepOf
        | with_reducible apply uStepNear
        | with_reducible apply uLawNeighbour
        | with_reducible apply uCycle
        | with_reducible apply uLawRing
        | ((with_reducible apply R.nw); intro HN tn sn ht)
        | with_reducible apply iteT
        | with_reducible apply iteF
        | with_reducible apply R.notT
        | with_reducible apply R.notF
        | ((with_reducible apply SqT.of); with_reducible assumption)
        | ((with_reducible apply SqL.of); with_reducible assumption)
        | ((with_reducible apply same_seqT); with_reducible assumption)
        | ((with_reducible apply sameB); with_reducible assumption)
        | ((with_reducible apply same_at); with_reducible assumption)
        | ((with_reducible apply kp_seqT); with_reducible assumption)
        | ((with_reducible apply Same.seq); with_reducible assumption)
        | ((with_reducible apply Kp.seqL); with_reducible assumption)
        | ((with_reducible apply fresh_ne); with_reducible assumption)
        | ((with_reducible apply Dw.same); with_reducible assumption)
        | ((with_reducible apply R.isEq); exact eq_true (by first | decide | omega))
        | ((with_reducible apply R.isLt); first | decide | omega)
        | ((with_reducible apply R.isLtI); first | decide | omega)
        | ((with_reducible apply R.isLeI); first | decide | omega)
        | ((with_reducible apply R.cdiv); exact rfl)
        | ((with_reducible apply R.cpow); exact rfl)
        | with_reducible apply R.cdivX
        | ((with_reducible apply R.isNe); omega)
        | with_reducible apply hU
        | ((with_reducible apply wayNF); first | exact rfl | exact ⟨rfl, rfl⟩ | exact ⟨rfl, rfl, rfl⟩ | exact ⟨rfl, rfl, rfl, rfl⟩)
        | with_reducible apply R.bm
        | ((with_reducible apply R.bmT); (focus ((first | with_reducible assumption | ((with_reducible apply same_at); with_reducible assumption) | ((with_reducible apply kp_at); with_reducible assumption)); done)))
        | with_reducible apply R.dput
        | with_reducible apply R.dget
        | with_reducible apply R.din
        | with_reducible apply R.dget2
        | with_reducible apply R.forE
        | with_reducible apply R.rng1
        | with_reducible apply R.rng2
        | with_reducible apply R.rg1
        | with_reducible apply R.rg2
        | with_reducible apply R.lcE
        | with_reducible apply R.itup
        | with_reducible apply R.ilst
        )
      refine wayNF cd ?_
      clean_wf
      intro H17 tn2 n1 n2 n3 n4 d17 k17 s17 l5
      have l5 := l5.mono (show Int.toNat 5 ≤ 5 by decide)
      obtain ⟨o1, o2, o3, o4⟩ := l5.bd (by decide)
      clean_wf
      have sz5 := act_size (a := A) (b := B) (c := C) (C := 1000000) (M := 243) hA hB hC l5.2.1 l5.2.2.1 l5.2.2.2.1 l5.2.2.2.2
      have F5 : IF D (fA A B C n1 n3) (fB A B C n1 n2 n3 n4) (fA A B C n2 n4) := ⟨by rw [dsc_act, l5.1, F2.d]; omega, F2.d0, F2.d1, F2.ns⟩
      have sF5 : SqT K HN tn [.int (fA A B C n1 n3), .int (fB A B C n1 n2 n3 n4), .int (fA A B C n2 n4)] := SqT.of ht
      refine uCanonical rfl sF5 F5 (by omega) (by omega) (by omega) hD ?_
      intro H18 te tef tem X5 Y5 Z5 P5 Q5 R5 V5 sm18 hte sef sem CI5
      have e5 := canF_uniq (n := (n1, n2, n3, n4)) hD cf CI5.from_ l5.1 rfl
      injection e5 with y1 y2
      injection y2 with y2 y3
      rw [y1, y2, y3] at sef
      clean_wf
      rw [decide_eq_true (And.intro rfl (And.intro rfl rfl))]
      exact qq _
end
theorem all_mk {l : PySem.W.OpenLaw} {w : World} {K : PySem.W.Frag} {h : Heap} {mg : Str → Option Value} {f : Addr} (X : K.In h) (G : h.Ns mainGlobals mg) (hfa : mg "law" = some (.ref f))
    {f0 f1 f2 f3 f4 f5 f6 f7 f8 f9 f10 f11 f12 f13 f14 f15 f16 f17 f18 f19 f20 f21 f22 f23 f24 f25 f26 f27 : Addr}
    {od0 an0 od1 an1 od2 an2 od3 an3 od4 an4 od5 an5 od6 an6 od7 an7 od8 an8 od9 an9 od10 an10 od11 an11 od12 an12 od13 an13 od14 an14 od15 an15 od16 an16 od17 an17 od18 an18 od19 an19 od20 an20 od21 an21 od22 an22 od23 an23 od24 an24 od25 an25 od26 an26 od27 an27 : Option Addr} {sl0 sl1 sl2 sl3 sl4 sl5 sl6 sl7 sl8 sl9 sl10 sl11 sl12 sl13 sl14 sl15 sl16 sl17 sl18 sl19 sl20 sl21 sl22 sl23 sl24 sl25 sl26 sl27 : Array (Option Value)}
    {oc0 kV0 dc0 pm0 cd0 ct0 oc1 kV1 dc1 pm1 cd1 ct1 oc2 kV2 dc2 pm2 cd2 ct2 oc3 kV3 dc3 pm3 cd3 ct3 oc4 kV4 dc4 pm4 cd4 ct4 oc5 kV5 dc5 pm5 cd5 ct5 oc6 kV6 dc6 pm6 cd6 ct6 oc7 kV7 dc7 pm7 cd7 ct7 oc8 kV8 dc8 pm8 cd8 ct8 oc9 kV9 dc9 pm9 cd9 ct9 oc10 kV10 dc10 pm10 cd10 ct10 oc11 kV11 dc11 pm11 cd11 ct11 oc12 kV12 dc12 pm12 cd12 ct12 oc13 kV13 dc13 pm13 cd13 ct13 oc14 kV14 dc14 pm14 cd14 ct14 oc15 kV15 dc15 pm15 cd15 ct15 oc16 kV16 dc16 pm16 cd16 ct16 oc17 kV17 dc17 pm17 cd17 ct17 oc18 kV18 dc18 pm18 cd18 ct18 oc19 kV19 dc19 pm19 cd19 ct19 oc20 kV20 dc20 pm20 cd20 ct20 oc21 kV21 dc21 pm21 cd21 ct21 oc22 kV22 dc22 pm22 cd22 ct22 oc23 kV23 dc23 pm23 cd23 ct23 oc24 kV24 dc24 pm24 cd24 ct24 oc25 kV25 dc25 pm25 cd25 ct25 oc26 kV26 dc26 pm26 cd26 ct26 oc27 kV27 dc27 pm27 cd27 ct27 : Value}
    (a0 : PySem.W.nsIn K mainGlobals "floor_root" = some (some (.ref f0))) (l0 : K.lookup f0 = some ⟨oc0, od0, .func (PySem.W.fnOf "floor_root" "floor_root" (defArgs sFloorRoot) (defBody sFloorRoot) (defScope sFloorRoot) .none kV0 dc0 pm0 an0 cd0 ct0), sl0⟩) (c0 : PySem.W.codeIn K cd0 "floor_root" = true) (k0 : PySem.W.keepIn K (.ref f0) = true)
    (a1 : PySem.W.nsIn K mainGlobals "discriminant" = some (some (.ref f1))) (l1 : K.lookup f1 = some ⟨oc1, od1, .func (PySem.W.fnOf "discriminant" "discriminant" (defArgs sDiscriminant) (defBody sDiscriminant) (defScope sDiscriminant) .none kV1 dc1 pm1 an1 cd1 ct1), sl1⟩) (c1 : PySem.W.codeIn K cd1 "discriminant" = true) (k1 : PySem.W.keepIn K (.ref f1) = true)
    (a2 : PySem.W.nsIn K mainGlobals "worth" = some (some (.ref f2))) (l2 : K.lookup f2 = some ⟨oc2, od2, .func (PySem.W.fnOf "worth" "worth" (defArgs sWorth) (defBody sWorth) (defScope sWorth) .none kV2 dc2 pm2 an2 cd2 ct2), sl2⟩) (c2 : PySem.W.codeIn K cd2 "worth" = true) (k2 : PySem.W.keepIn K (.ref f2) = true)
    (a3 : PySem.W.nsIn K mainGlobals "act" = some (some (.ref f3))) (l3 : K.lookup f3 = some ⟨oc3, od3, .func (PySem.W.fnOf "act" "act" (defArgs sAct) (defBody sAct) (defScope sAct) .none kV3 dc3 pm3 an3 cd3 ct3), sl3⟩) (c3 : PySem.W.codeIn K cd3 "act" = true) (k3 : PySem.W.keepIn K (.ref f3) = true)
    (a4 : PySem.W.nsIn K mainGlobals "multiply" = some (some (.ref f4))) (l4 : K.lookup f4 = some ⟨oc4, od4, .func (PySem.W.fnOf "multiply" "multiply" (defArgs sMultiply) (defBody sMultiply) (defScope sMultiply) .none kV4 dc4 pm4 an4 cd4 ct4), sl4⟩) (c4 : PySem.W.codeIn K cd4 "multiply" = true) (k4 : PySem.W.keepIn K (.ref f4) = true)
    (a5 : PySem.W.nsIn K mainGlobals "is_reduced" = some (some (.ref f5))) (l5 : K.lookup f5 = some ⟨oc5, od5, .func (PySem.W.fnOf "is_reduced" "is_reduced" (defArgs sIsReduced) (defBody sIsReduced) (defScope sIsReduced) .none kV5 dc5 pm5 an5 cd5 ct5), sl5⟩) (c5 : PySem.W.codeIn K cd5 "is_reduced" = true) (k5 : PySem.W.keepIn K (.ref f5) = true)
    (a6 : PySem.W.nsIn K mainGlobals "reduce_indefinite" = some (some (.ref f6))) (l6 : K.lookup f6 = some ⟨oc6, od6, .func (PySem.W.fnOf "reduce_indefinite" "reduce_indefinite" (defArgs sReduceIndefinite) (defBody sReduceIndefinite) (defScope sReduceIndefinite) .none kV6 dc6 pm6 an6 cd6 ct6), sl6⟩) (c6 : PySem.W.codeIn K cd6 "reduce_indefinite" = true) (k6 : PySem.W.keepIn K (.ref f6) = true)
    (a7 : PySem.W.nsIn K mainGlobals "_step_near" = some (some (.ref f7))) (l7 : K.lookup f7 = some ⟨oc7, od7, .func (PySem.W.fnOf "_step_near" "_step_near" (defArgs sStepNear) (defBody sStepNear) (defScope sStepNear) .none kV7 dc7 pm7 an7 cd7 ct7), sl7⟩) (c7 : PySem.W.codeIn K cd7 "_step_near" = true) (k7 : PySem.W.keepIn K (.ref f7) = true)
    (a8 : PySem.W.nsIn K mainGlobals "step_of" = some (some (.ref f8))) (l8 : K.lookup f8 = some ⟨oc8, od8, .func (PySem.W.fnOf "step_of" "step_of" (defArgs sStepOf) (defBody sStepOf) (defScope sStepOf) .none kV8 dc8 pm8 an8 cd8 ct8), sl8⟩) (c8 : PySem.W.codeIn K cd8 "step_of" = true) (k8 : PySem.W.keepIn K (.ref f8) = true)
    (a9 : PySem.W.nsIn K mainGlobals "cycle" = some (some (.ref f9))) (l9 : K.lookup f9 = some ⟨oc9, od9, .func (PySem.W.fnOf "cycle" "cycle" (defArgs sCycle) (defBody sCycle) (defScope sCycle) .none kV9 dc9 pm9 an9 cd9 ct9), sl9⟩) (c9 : PySem.W.codeIn K cd9 "cycle" = true) (k9 : PySem.W.keepIn K (.ref f9) = true)
    (a10 : PySem.W.nsIn K mainGlobals "canonical" = some (some (.ref f10))) (l10 : K.lookup f10 = some ⟨oc10, od10, .func (PySem.W.fnOf "canonical" "canonical" (defArgs sCanonical) (defBody sCanonical) (defScope sCanonical) .none kV10 dc10 pm10 an10 cd10 ct10), sl10⟩) (c10 : PySem.W.codeIn K cd10 "canonical" = true) (k10 : PySem.W.keepIn K (.ref f10) = true)
    (a11 : PySem.W.nsIn K mainGlobals "_law_cell" = some (some (.ref f11))) (l11 : K.lookup f11 = some ⟨oc11, od11, .func (PySem.W.fnOf "_law_cell" "_law_cell" (defArgs sLawCell) (defBody sLawCell) (defScope sLawCell) .none kV11 dc11 pm11 an11 cd11 ct11), sl11⟩) (c11 : PySem.W.codeIn K cd11 "_law_cell" = true) (k11 : PySem.W.keepIn K (.ref f11) = true)
    (a12 : PySem.W.nsIn K mainGlobals "_law_numbers" = some (some (.ref f12))) (l12 : K.lookup f12 = some ⟨oc12, od12, .func (PySem.W.fnOf "_law_numbers" "_law_numbers" (defArgs sLawNumbers) (defBody sLawNumbers) (defScope sLawNumbers) .none kV12 dc12 pm12 an12 cd12 ct12), sl12⟩) (c12 : PySem.W.codeIn K cd12 "_law_numbers" = true) (k12 : PySem.W.keepIn K (.ref f12) = true)
    (a13 : PySem.W.nsIn K mainGlobals "_law_state" = some (some (.ref f13))) (l13 : K.lookup f13 = some ⟨oc13, od13, .func (PySem.W.fnOf "_law_state" "_law_state" (defArgs sLawState) (defBody sLawState) (defScope sLawState) .none kV13 dc13 pm13 an13 cd13 ct13), sl13⟩) (c13 : PySem.W.codeIn K cd13 "_law_state" = true) (k13 : PySem.W.keepIn K (.ref f13) = true)
    (a14 : PySem.W.nsIn K mainGlobals "_law_next" = some (some (.ref f14))) (l14 : K.lookup f14 = some ⟨oc14, od14, .func (PySem.W.fnOf "_law_next" "_law_next" (defArgs sLawNext) (defBody sLawNext) (defScope sLawNext) .none kV14 dc14 pm14 an14 cd14 ct14), sl14⟩) (c14 : PySem.W.codeIn K cd14 "_law_next" = true) (k14 : PySem.W.keepIn K (.ref f14) = true)
    (a15 : PySem.W.nsIn K mainGlobals "_law_root" = some (some (.ref f15))) (l15 : K.lookup f15 = some ⟨oc15, od15, .func (PySem.W.fnOf "_law_root" "_law_root" (defArgs sLawRoot) (defBody sLawRoot) (defScope sLawRoot) .none kV15 dc15 pm15 an15 cd15 ct15), sl15⟩) (c15 : PySem.W.codeIn K cd15 "_law_root" = true) (k15 : PySem.W.keepIn K (.ref f15) = true)
    (a16 : PySem.W.nsIn K mainGlobals "_law_mul" = some (some (.ref f16))) (l16 : K.lookup f16 = some ⟨oc16, od16, .func (PySem.W.fnOf "_law_mul" "_law_mul" (defArgs sLawMul) (defBody sLawMul) (defScope sLawMul) .none kV16 dc16 pm16 an16 cd16 ct16), sl16⟩) (c16 : PySem.W.codeIn K cd16 "_law_mul" = true) (k16 : PySem.W.keepIn K (.ref f16) = true)
    (a17 : PySem.W.nsIn K mainGlobals "_law_worth" = some (some (.ref f17))) (l17 : K.lookup f17 = some ⟨oc17, od17, .func (PySem.W.fnOf "_law_worth" "_law_worth" (defArgs sLawWorth) (defBody sLawWorth) (defScope sLawWorth) .none kV17 dc17 pm17 an17 cd17 ct17), sl17⟩) (c17 : PySem.W.codeIn K cd17 "_law_worth" = true) (k17 : PySem.W.keepIn K (.ref f17) = true)
    (a18 : PySem.W.nsIn K mainGlobals "_law_act" = some (some (.ref f18))) (l18 : K.lookup f18 = some ⟨oc18, od18, .func (PySem.W.fnOf "_law_act" "_law_act" (defArgs sLawAct) (defBody sLawAct) (defScope sLawAct) .none kV18 dc18 pm18 an18 cd18 ct18), sl18⟩) (c18 : PySem.W.codeIn K cd18 "_law_act" = true) (k18 : PySem.W.keepIn K (.ref f18) = true)
    (a19 : PySem.W.nsIn K mainGlobals "_law_change" = some (some (.ref f19))) (l19 : K.lookup f19 = some ⟨oc19, od19, .func (PySem.W.fnOf "_law_change" "_law_change" (defArgs sLawChange) (defBody sLawChange) (defScope sLawChange) .none kV19 dc19 pm19 an19 cd19 ct19), sl19⟩) (c19 : PySem.W.codeIn K cd19 "_law_change" = true) (k19 : PySem.W.keepIn K (.ref f19) = true)
    (a20 : PySem.W.nsIn K mainGlobals "_law_square" = some (some (.ref f20))) (l20 : K.lookup f20 = some ⟨oc20, od20, .func (PySem.W.fnOf "_law_square" "_law_square" (defArgs sLawSquare) (defBody sLawSquare) (defScope sLawSquare) .none kV20 dc20 pm20 an20 cd20 ct20), sl20⟩) (c20 : PySem.W.codeIn K cd20 "_law_square" = true) (k20 : PySem.W.keepIn K (.ref f20) = true)
    (a21 : PySem.W.nsIn K mainGlobals "_law_kind" = some (some (.ref f21))) (l21 : K.lookup f21 = some ⟨oc21, od21, .func (PySem.W.fnOf "_law_kind" "_law_kind" (defArgs sLawKind) (defBody sLawKind) (defScope sLawKind) .none kV21 dc21 pm21 an21 cd21 ct21), sl21⟩) (c21 : PySem.W.codeIn K cd21 "_law_kind" = true) (k21 : PySem.W.keepIn K (.ref f21) = true)
    (a22 : PySem.W.nsIn K mainGlobals "_law_split" = some (some (.ref f22))) (l22 : K.lookup f22 = some ⟨oc22, od22, .func (PySem.W.fnOf "_law_split" "_law_split" (defArgs sLawSplit) (defBody sLawSplit) (defScope sLawSplit) .none kV22 dc22 pm22 an22 cd22 ct22), sl22⟩) (c22 : PySem.W.codeIn K cd22 "_law_split" = true) (k22 : PySem.W.keepIn K (.ref f22) = true)
    (a23 : PySem.W.nsIn K mainGlobals "_law_flat" = some (some (.ref f23))) (l23 : K.lookup f23 = some ⟨oc23, od23, .func (PySem.W.fnOf "_law_flat" "_law_flat" (defArgs sLawFlat) (defBody sLawFlat) (defScope sLawFlat) .none kV23 dc23 pm23 an23 cd23 ct23), sl23⟩) (c23 : PySem.W.codeIn K cd23 "_law_flat" = true) (k23 : PySem.W.keepIn K (.ref f23) = true)
    (a24 : PySem.W.nsIn K mainGlobals "_law_form" = some (some (.ref f24))) (l24 : K.lookup f24 = some ⟨oc24, od24, .func (PySem.W.fnOf "_law_form" "_law_form" (defArgs sLawForm) (defBody sLawForm) (defScope sLawForm) .none kV24 dc24 pm24 an24 cd24 ct24), sl24⟩) (c24 : PySem.W.codeIn K cd24 "_law_form" = true) (k24 : PySem.W.keepIn K (.ref f24) = true)
    (a25 : PySem.W.nsIn K mainGlobals "_law_neighbour" = some (some (.ref f25))) (l25 : K.lookup f25 = some ⟨oc25, od25, .func (PySem.W.fnOf "_law_neighbour" "_law_neighbour" (defArgs sLawNeighbour) (defBody sLawNeighbour) (defScope sLawNeighbour) .none kV25 dc25 pm25 an25 cd25 ct25), sl25⟩) (c25 : PySem.W.codeIn K cd25 "_law_neighbour" = true) (k25 : PySem.W.keepIn K (.ref f25) = true)
    (a26 : PySem.W.nsIn K mainGlobals "_law_ring" = some (some (.ref f26))) (l26 : K.lookup f26 = some ⟨oc26, od26, .func (PySem.W.fnOf "_law_ring" "_law_ring" (defArgs sLawRing) (defBody sLawRing) (defScope sLawRing) .none kV26 dc26 pm26 an26 cd26 ct26), sl26⟩) (c26 : PySem.W.codeIn K cd26 "_law_ring" = true) (k26 : PySem.W.keepIn K (.ref f26) = true)
    (a27 : PySem.W.nsIn K mainGlobals "law" = some (some (.ref f27))) (l27 : K.lookup f27 = some ⟨oc27, od27, .func (PySem.W.fnOf "law" "law" (defArgs sLaw) (defBody sLaw) (defScope sLaw) .none kV27 dc27 pm27 an27 cd27 ct27), sl27⟩) (c27 : PySem.W.codeIn K cd27 "law" = true) (k27 : PySem.W.keepIn K (.ref f27) = true)
    (z0 : PySem.W.nsIn K mainGlobals "abs" = some none)
    (z1 : PySem.W.nsIn K mainGlobals "int" = some none)
    (z2 : PySem.W.nsIn K mainGlobals "isinstance" = some none)
    (z3 : PySem.W.nsIn K mainGlobals "len" = some none)
    (z4 : PySem.W.nsIn K mainGlobals "list" = some none)
    (z5 : PySem.W.nsIn K mainGlobals "min" = some none)
    (z6 : PySem.W.nsIn K mainGlobals "range" = some none)
    (z7 : PySem.W.nsIn K mainGlobals "tuple" = some none)
    (i0 : PySem.W.nsIn K mainGlobals "isqrt" = some (some (.builtin "math.isqrt")))
    {fw0 : Addr} {odw0 : Option Addr} {itw0 : Array Value} {nw0 : Nat} {slw0 : Array (Option Value)}
    (w0 : PySem.W.nsIn K mainGlobals "UNIT" = some (some (.ref fw0))) (x0 : K.lookup fw0 = some ⟨.type "tuple", odw0, .seq itw0 nw0, slw0⟩) (y0 : itw0.size ≤ sizeLine) (v0 : Vals [.int 1, .int 0, .int 0, .int 1] itw0.toList)
    : ∃ fd : FuncData, (∀ (s : Shared) (v : Value), BindsTo s fd ⟨[v], []⟩ [("script", v)]) ∧ ∀ base : Heap, K.In base → base.Ns mainGlobals mg → FnOk l.prog w K mg base CX0 6 f fd ["script"] (spLaw K) := by
  have e := hfa.symm.trans (PySem.W.mg_of X G a27)
  cases e
  have F0 := fun_mk (st := sFloorRoot) l0 c0 k0
  have F1 := fun_mk (st := sDiscriminant) l1 c1 k1
  have F2 := fun_mk (st := sWorth) l2 c2 k2
  have F3 := fun_mk (st := sAct) l3 c3 k3
  have F4 := fun_mk (st := sMultiply) l4 c4 k4
  have F5 := fun_mk (st := sIsReduced) l5 c5 k5
  have F6 := fun_mk (st := sReduceIndefinite) l6 c6 k6
  have F7 := fun_mk (st := sStepNear) l7 c7 k7
  have F8 := fun_mk (st := sStepOf) l8 c8 k8
  have F9 := fun_mk (st := sCycle) l9 c9 k9
  have F10 := fun_mk (st := sCanonical) l10 c10 k10
  have F11 := fun_mk (st := sLawCell) l11 c11 k11
  have F12 := fun_mk (st := sLawNumbers) l12 c12 k12
  have F13 := fun_mk (st := sLawState) l13 c13 k13
  have F14 := fun_mk (st := sLawNext) l14 c14 k14
  have F15 := fun_mk (st := sLawRoot) l15 c15 k15
  have F16 := fun_mk (st := sLawMul) l16 c16 k16
  have F17 := fun_mk (st := sLawWorth) l17 c17 k17
  have F18 := fun_mk (st := sLawAct) l18 c18 k18
  have F19 := fun_mk (st := sLawChange) l19 c19 k19
  have F20 := fun_mk (st := sLawSquare) l20 c20 k20
  have F21 := fun_mk (st := sLawKind) l21 c21 k21
  have F22 := fun_mk (st := sLawSplit) l22 c22 k22
  have F23 := fun_mk (st := sLawFlat) l23 c23 k23
  have F24 := fun_mk (st := sLawForm) l24 c24 k24
  have F25 := fun_mk (st := sLawNeighbour) l25 c25 k25
  have F26 := fun_mk (st := sLawRing) l26 c26 k26
  have F27 := fun_mk (st := sLaw) l27 c27 k27
  have b0 := F0.binds (ps := ["n"]) fun _ _ _ _ _ _ us hl => match us, hl with | [_], _ => rfl
  have b1 := F1.binds (ps := ["form"]) fun _ _ _ _ _ _ us hl => match us, hl with | [_], _ => rfl
  have b2 := F2.binds (ps := ["form", "point"]) fun _ _ _ _ _ _ us hl => match us, hl with | [_, _], _ => rfl
  have b3 := F3.binds (ps := ["form", "m"]) fun _ _ _ _ _ _ us hl => match us, hl with | [_, _], _ => rfl
  have b4 := F4.binds (ps := ["m", "n"]) fun _ _ _ _ _ _ us hl => match us, hl with | [_, _], _ => rfl
  have b5 := F5.binds (ps := ["form"]) fun _ _ _ _ _ _ us hl => match us, hl with | [_], _ => rfl
  have b6 := F6.binds (ps := ["form"]) fun _ _ _ _ _ _ us hl => match us, hl with | [_], _ => rfl
  have b7 := F7.binds (ps := ["form"]) fun _ _ _ _ _ _ us hl => match us, hl with | [_], _ => rfl
  have b8 := F8.binds (ps := ["form"]) fun _ _ _ _ _ _ us hl => match us, hl with | [_], _ => rfl
  have b9 := F9.binds (ps := ["form"]) fun _ _ _ _ _ _ us hl => match us, hl with | [_], _ => rfl
  have b10 := F10.binds (ps := ["form"]) fun _ _ _ _ _ _ us hl => match us, hl with | [_], _ => rfl
  have b11 := F11.binds (ps := ["script", "k"]) fun _ _ _ _ _ _ us hl => match us, hl with | [_, _], _ => rfl
  have b12 := F12.binds (ps := ["cell", "many"]) fun _ _ _ _ _ _ us hl => match us, hl with | [_, _], _ => rfl
  have b13 := F13.binds (ps := ["script"]) fun _ _ _ _ _ _ us hl => match us, hl with | [_], _ => rfl
  have b14 := F14.binds (ps := ["state", "many"]) fun _ _ _ _ _ _ us hl => match us, hl with | [_, _], _ => rfl
  have b15 := F15.binds (ps := ["n"]) fun _ _ _ _ _ _ us hl => match us, hl with | [_], _ => rfl
  have b16 := F16.binds (ps := ["m", "n"]) fun _ _ _ _ _ _ us hl => match us, hl with | [_, _], _ => rfl
  have b17 := F17.binds (ps := ["form", "x", "y"]) fun _ _ _ _ _ _ us hl => match us, hl with | [_, _, _], _ => rfl
  have b18 := F18.binds (ps := ["form", "m"]) fun _ _ _ _ _ _ us hl => match us, hl with | [_, _], _ => rfl
  have b19 := F19.binds (ps := ["state", "many"]) fun _ _ _ _ _ _ us hl => match us, hl with | [_, _], _ => rfl
  have b20 := F20.binds (ps := ["n"]) fun _ _ _ _ _ _ us hl => match us, hl with | [_], _ => rfl
  have b21 := F21.binds (ps := ["form"]) fun _ _ _ _ _ _ us hl => match us, hl with | [_], _ => rfl
  have b22 := F22.binds (ps := ["state"]) fun _ _ _ _ _ _ us hl => match us, hl with | [_], _ => rfl
  have b23 := F23.binds (ps := ["state"]) fun _ _ _ _ _ _ us hl => match us, hl with | [_], _ => rfl
  have b24 := F24.binds (ps := ["state", "sort"]) fun _ _ _ _ _ _ us hl => match us, hl with | [_, _], _ => rfl
  have b25 := F25.binds (ps := ["form"]) fun _ _ _ _ _ _ us hl => match us, hl with | [_], _ => rfl
  have b26 := F26.binds (ps := ["form"]) fun _ _ _ _ _ _ us hl => match us, hl with | [_], _ => rfl
  have b27 := F27.binds (ps := ["script"]) fun _ _ _ _ _ _ us hl => match us, hl with | [_], _ => rfl
  let fa : Nat → Addr := fun i => [f0, f1, f2, f3, f4, f5, f6, f7, f8, f9, f10, f11, f12, f13, f14, f15, f16, f17, f18, f19, f20, f21, f22, f23, f24, f25, f26, f, fw0].getD i 0
  let fd : Nat → FuncData := fun i => match i with
    | 0 => PySem.W.fnOf "floor_root" "floor_root" (defArgs sFloorRoot) (defBody sFloorRoot) (defScope sFloorRoot) .none kV0 dc0 pm0 an0 cd0 ct0
    | 1 => PySem.W.fnOf "discriminant" "discriminant" (defArgs sDiscriminant) (defBody sDiscriminant) (defScope sDiscriminant) .none kV1 dc1 pm1 an1 cd1 ct1
    | 2 => PySem.W.fnOf "worth" "worth" (defArgs sWorth) (defBody sWorth) (defScope sWorth) .none kV2 dc2 pm2 an2 cd2 ct2
    | 3 => PySem.W.fnOf "act" "act" (defArgs sAct) (defBody sAct) (defScope sAct) .none kV3 dc3 pm3 an3 cd3 ct3
    | 4 => PySem.W.fnOf "multiply" "multiply" (defArgs sMultiply) (defBody sMultiply) (defScope sMultiply) .none kV4 dc4 pm4 an4 cd4 ct4
    | 5 => PySem.W.fnOf "is_reduced" "is_reduced" (defArgs sIsReduced) (defBody sIsReduced) (defScope sIsReduced) .none kV5 dc5 pm5 an5 cd5 ct5
    | 6 => PySem.W.fnOf "reduce_indefinite" "reduce_indefinite" (defArgs sReduceIndefinite) (defBody sReduceIndefinite) (defScope sReduceIndefinite) .none kV6 dc6 pm6 an6 cd6 ct6
    | 7 => PySem.W.fnOf "_step_near" "_step_near" (defArgs sStepNear) (defBody sStepNear) (defScope sStepNear) .none kV7 dc7 pm7 an7 cd7 ct7
    | 8 => PySem.W.fnOf "step_of" "step_of" (defArgs sStepOf) (defBody sStepOf) (defScope sStepOf) .none kV8 dc8 pm8 an8 cd8 ct8
    | 9 => PySem.W.fnOf "cycle" "cycle" (defArgs sCycle) (defBody sCycle) (defScope sCycle) .none kV9 dc9 pm9 an9 cd9 ct9
    | 10 => PySem.W.fnOf "canonical" "canonical" (defArgs sCanonical) (defBody sCanonical) (defScope sCanonical) .none kV10 dc10 pm10 an10 cd10 ct10
    | 11 => PySem.W.fnOf "_law_cell" "_law_cell" (defArgs sLawCell) (defBody sLawCell) (defScope sLawCell) .none kV11 dc11 pm11 an11 cd11 ct11
    | 12 => PySem.W.fnOf "_law_numbers" "_law_numbers" (defArgs sLawNumbers) (defBody sLawNumbers) (defScope sLawNumbers) .none kV12 dc12 pm12 an12 cd12 ct12
    | 13 => PySem.W.fnOf "_law_state" "_law_state" (defArgs sLawState) (defBody sLawState) (defScope sLawState) .none kV13 dc13 pm13 an13 cd13 ct13
    | 14 => PySem.W.fnOf "_law_next" "_law_next" (defArgs sLawNext) (defBody sLawNext) (defScope sLawNext) .none kV14 dc14 pm14 an14 cd14 ct14
    | 15 => PySem.W.fnOf "_law_root" "_law_root" (defArgs sLawRoot) (defBody sLawRoot) (defScope sLawRoot) .none kV15 dc15 pm15 an15 cd15 ct15
    | 16 => PySem.W.fnOf "_law_mul" "_law_mul" (defArgs sLawMul) (defBody sLawMul) (defScope sLawMul) .none kV16 dc16 pm16 an16 cd16 ct16
    | 17 => PySem.W.fnOf "_law_worth" "_law_worth" (defArgs sLawWorth) (defBody sLawWorth) (defScope sLawWorth) .none kV17 dc17 pm17 an17 cd17 ct17
    | 18 => PySem.W.fnOf "_law_act" "_law_act" (defArgs sLawAct) (defBody sLawAct) (defScope sLawAct) .none kV18 dc18 pm18 an18 cd18 ct18
    | 19 => PySem.W.fnOf "_law_change" "_law_change" (defArgs sLawChange) (defBody sLawChange) (defScope sLawChange) .none kV19 dc19 pm19 an19 cd19 ct19
    | 20 => PySem.W.fnOf "_law_square" "_law_square" (defArgs sLawSquare) (defBody sLawSquare) (defScope sLawSquare) .none kV20 dc20 pm20 an20 cd20 ct20
    | 21 => PySem.W.fnOf "_law_kind" "_law_kind" (defArgs sLawKind) (defBody sLawKind) (defScope sLawKind) .none kV21 dc21 pm21 an21 cd21 ct21
    | 22 => PySem.W.fnOf "_law_split" "_law_split" (defArgs sLawSplit) (defBody sLawSplit) (defScope sLawSplit) .none kV22 dc22 pm22 an22 cd22 ct22
    | 23 => PySem.W.fnOf "_law_flat" "_law_flat" (defArgs sLawFlat) (defBody sLawFlat) (defScope sLawFlat) .none kV23 dc23 pm23 an23 cd23 ct23
    | 24 => PySem.W.fnOf "_law_form" "_law_form" (defArgs sLawForm) (defBody sLawForm) (defScope sLawForm) .none kV24 dc24 pm24 an24 cd24 ct24
    | 25 => PySem.W.fnOf "_law_neighbour" "_law_neighbour" (defArgs sLawNeighbour) (defBody sLawNeighbour) (defScope sLawNeighbour) .none kV25 dc25 pm25 an25 cd25 ct25
    | 26 => PySem.W.fnOf "_law_ring" "_law_ring" (defArgs sLawRing) (defBody sLawRing) (defScope sLawRing) .none kV26 dc26 pm26 an26 cd26 ct26
    | _ => PySem.W.fnOf "law" "law" (defArgs sLaw) (defBody sLaw) (defScope sLaw) .none kV27 dc27 pm27 an27 cd27 ct27
  have T : Txt K mg fa fd := {
    F_floor_root := F0, B_floor_root := b0, G_floor_root := PySem.W.mg_of X G a0,
    F_discriminant := F1, B_discriminant := b1, G_discriminant := PySem.W.mg_of X G a1,
    F_worth := F2, B_worth := b2, G_worth := PySem.W.mg_of X G a2,
    F_act := F3, B_act := b3, G_act := PySem.W.mg_of X G a3,
    F_multiply := F4, B_multiply := b4, G_multiply := PySem.W.mg_of X G a4,
    F_is_reduced := F5, B_is_reduced := b5, G_is_reduced := PySem.W.mg_of X G a5,
    F_reduce_indefinite := F6, B_reduce_indefinite := b6, G_reduce_indefinite := PySem.W.mg_of X G a6,
    F__step_near := F7, B__step_near := b7, G__step_near := PySem.W.mg_of X G a7,
    F_step_of := F8, B_step_of := b8, G_step_of := PySem.W.mg_of X G a8,
    F_cycle := F9, B_cycle := b9, G_cycle := PySem.W.mg_of X G a9,
    F_canonical := F10, B_canonical := b10, G_canonical := PySem.W.mg_of X G a10,
    F__law_cell := F11, B__law_cell := b11, G__law_cell := PySem.W.mg_of X G a11,
    F__law_numbers := F12, B__law_numbers := b12, G__law_numbers := PySem.W.mg_of X G a12,
    F__law_state := F13, B__law_state := b13, G__law_state := PySem.W.mg_of X G a13,
    F__law_next := F14, B__law_next := b14, G__law_next := PySem.W.mg_of X G a14,
    F__law_root := F15, B__law_root := b15, G__law_root := PySem.W.mg_of X G a15,
    F__law_mul := F16, B__law_mul := b16, G__law_mul := PySem.W.mg_of X G a16,
    F__law_worth := F17, B__law_worth := b17, G__law_worth := PySem.W.mg_of X G a17,
    F__law_act := F18, B__law_act := b18, G__law_act := PySem.W.mg_of X G a18,
    F__law_change := F19, B__law_change := b19, G__law_change := PySem.W.mg_of X G a19,
    F__law_square := F20, B__law_square := b20, G__law_square := PySem.W.mg_of X G a20,
    F__law_kind := F21, B__law_kind := b21, G__law_kind := PySem.W.mg_of X G a21,
    F__law_split := F22, B__law_split := b22, G__law_split := PySem.W.mg_of X G a22,
    F__law_flat := F23, B__law_flat := b23, G__law_flat := PySem.W.mg_of X G a23,
    F__law_form := F24, B__law_form := b24, G__law_form := PySem.W.mg_of X G a24,
    F__law_neighbour := F25, B__law_neighbour := b25, G__law_neighbour := PySem.W.mg_of X G a25,
    F__law_ring := F26, B__law_ring := b26, G__law_ring := PySem.W.mg_of X G a26,
    F_law := F27, B_law := b27, G_law := PySem.W.mg_of X G a27,
    m_abs := PySem.W.mg_none_of X G z0, m_int := PySem.W.mg_none_of X G z1, m_isinstance := PySem.W.mg_none_of X G z2, m_len := PySem.W.mg_none_of X G z3, m_list := PySem.W.mg_none_of X G z4, m_min := PySem.W.mg_none_of X G z5, m_range := PySem.W.mg_none_of X G z6, m_tuple := PySem.W.mg_none_of X G z7, g_isqrt := PySem.W.mg_of X G i0, g_UNIT := PySem.W.mg_of X G w0, S_UNIT := fun H => .inr ⟨_, _, _, x0, rfl, rfl, y0, v0⟩ }
  exact ⟨fd 27, fun s v => .of_eq rfl, fun base _ _ => okLaw T⟩
end Wc
open PySem PySem.W PyProof.Rows
set_option maxHeartbeats 0 in
theorem PySem.Challenge.cw_wholeconic_k12_cycles_holds : PySem.Challenge.rw_wholeconic_k12_cycles.Holds := by
  w_on; o_law; k_head; (case hw => w_witness2)
  k_fill
  refine L2.walk_of (l := PySem.Challenge.rw_wholeconic_k12_cycles) (n := 63) (k := 6) (x := "script") (CX := fun _ => L2.CX0) (sp := fun w => Wc.spLaw _) rfl (by decide) rfl ⟨rfl, by decide, by decide⟩ (fun w h Y => PySem.W.kIn_of Y) ?F (fun _ _ a ns hl _ hS => ⟨a, ns, rfl, hS, hl, fun _ => rfl⟩) (fun _ _ _ _ _ h => h)
  case F =>
    intro w mg fa h KX G hmg
    refine' Wc.all_mk KX G hmg ?a0 ?l0 ?c0 ?k0 ?a1 ?l1 ?c1 ?k1 ?a2 ?l2 ?c2 ?k2 ?a3 ?l3 ?c3 ?k3 ?a4 ?l4 ?c4 ?k4 ?a5 ?l5 ?c5 ?k5 ?a6 ?l6 ?c6 ?k6 ?a7 ?l7 ?c7 ?k7 ?a8 ?l8 ?c8 ?k8 ?a9 ?l9 ?c9 ?k9 ?a10 ?l10 ?c10 ?k10 ?a11 ?l11 ?c11 ?k11 ?a12 ?l12 ?c12 ?k12 ?a13 ?l13 ?c13 ?k13 ?a14 ?l14 ?c14 ?k14 ?a15 ?l15 ?c15 ?k15 ?a16 ?l16 ?c16 ?k16 ?a17 ?l17 ?c17 ?k17 ?a18 ?l18 ?c18 ?k18 ?a19 ?l19 ?c19 ?k19 ?a20 ?l20 ?c20 ?k20 ?a21 ?l21 ?c21 ?k21 ?a22 ?l22 ?c22 ?k22 ?a23 ?l23 ?c23 ?k23 ?a24 ?l24 ?c24 ?k24 ?a25 ?l25 ?c25 ?k25 ?a26 ?l26 ?c26 ?k26 ?a27 ?l27 ?c27 ?k27 ?z0 ?z1 ?z2 ?z3 ?z4 ?z5 ?z6 ?z7 ?i0 ?w0 ?x0 ?y0 ?v0
    (case a0 => k_is); (case l0 => k_is); (case c0 => k_is); (case k0 => k_is); (case a1 => k_is); (case l1 => k_is); (case c1 => k_is); (case k1 => k_is); (case a2 => k_is); (case l2 => k_is); (case c2 => k_is); (case k2 => k_is); (case a3 => k_is); (case l3 => k_is); (case c3 => k_is); (case k3 => k_is); (case a4 => k_is); (case l4 => k_is); (case c4 => k_is); (case k4 => k_is); (case a5 => k_is); (case l5 => k_is); (case c5 => k_is); (case k5 => k_is); (case a6 => k_is); (case l6 => k_is); (case c6 => k_is); (case k6 => k_is); (case a7 => k_is); (case l7 => k_is); (case c7 => k_is); (case k7 => k_is); (case a8 => k_is); (case l8 => k_is); (case c8 => k_is); (case k8 => k_is); (case a9 => k_is); (case l9 => k_is); (case c9 => k_is); (case k9 => k_is); (case a10 => k_is); (case l10 => k_is); (case c10 => k_is); (case k10 => k_is); (case a11 => k_is); (case l11 => k_is); (case c11 => k_is); (case k11 => k_is); (case a12 => k_is); (case l12 => k_is); (case c12 => k_is); (case k12 => k_is); (case a13 => k_is); (case l13 => k_is); (case c13 => k_is); (case k13 => k_is); (case a14 => k_is); (case l14 => k_is); (case c14 => k_is); (case k14 => k_is); (case a15 => k_is); (case l15 => k_is); (case c15 => k_is); (case k15 => k_is); (case a16 => k_is); (case l16 => k_is); (case c16 => k_is); (case k16 => k_is); (case a17 => k_is); (case l17 => k_is); (case c17 => k_is); (case k17 => k_is); (case a18 => k_is); (case l18 => k_is); (case c18 => k_is); (case k18 => k_is); (case a19 => k_is); (case l19 => k_is); (case c19 => k_is); (case k19 => k_is); (case a20 => k_is); (case l20 => k_is); (case c20 => k_is); (case k20 => k_is); (case a21 => k_is); (case l21 => k_is); (case c21 => k_is); (case k21 => k_is); (case a22 => k_is); (case l22 => k_is); (case c22 => k_is); (case k22 => k_is); (case a23 => k_is); (case l23 => k_is); (case c23 => k_is); (case k23 => k_is); (case a24 => k_is); (case l24 => k_is); (case c24 => k_is); (case k24 => k_is); (case a25 => k_is); (case l25 => k_is); (case c25 => k_is); (case k25 => k_is); (case a26 => k_is); (case l26 => k_is); (case c26 => k_is); (case k26 => k_is); (case a27 => k_is); (case l27 => k_is); (case c27 => k_is); (case k27 => k_is); (case z0 => k_is); (case z1 => k_is); (case z2 => k_is); (case z3 => k_is); (case z4 => k_is); (case z5 => k_is); (case z6 => k_is); (case z7 => k_is); (case i0 => k_is); (case w0 => k_is); (case x0 => k_is); (case y0 => exact (by decide)); (case v0 => (repeat (first | exact .nil | refine .cons ⟨_, rfl⟩ ?_)))
