import PyProof.Rows.All
import Wide.All
import OpenK.AllK
import Wide.FinOn
import HandS.ForMost
import HandS.Wide
import HandS.Gcd
import HandS.Style
import HandS.IsInst
import HandS.Codes
import Flt.RightSqrt
import HandS.WideBits
import HandS.SortInts
import HandS.Conv
import PySem.Challenge.RW_wholeconic_k04_roots_of_great_moduli
set_option Elab.async false
set_option linter.all false
set_option maxRecDepth 100000
set_option maxHeartbeats 4000000
namespace Wc
open PySem PySem.Spec PyProof.Rows L2
/-! ### the text -/
def topS (i : Nat) : Stmt := PySem.Challenge.pw_wholeconic_k04_roots_of_great_moduli.main.body.getD i (.Pass ⟨0, 0, 0, 0⟩)
abbrev sBezout : Stmt := topS 2
theorem scBezout : FnScope ["a", "b", "g", "u", "v", "rest", "rest_u", "rest_v", "part"] ["a", "b"] (defScope sBezout) := ⟨rfl, rfl, rfl, by decide +kernel, rfl, by decide +kernel, by decide +kernel⟩
abbrev sPower : Stmt := topS 3
theorem scPower : FnScope ["base", "many", "result", "_"] ["base", "many"] (defScope sPower) := ⟨rfl, rfl, rfl, by decide +kernel, rfl, by decide +kernel, by decide +kernel⟩
abbrev sPowerModulo : Stmt := topS 4
theorem scPowerModulo : FnScope ["base", "many", "modulus", "result", "square"] ["base", "many", "modulus"] (defScope sPowerModulo) := ⟨rfl, rfl, rfl, by decide +kernel, rfl, by decide +kernel, by decide +kernel⟩
abbrev sTakenOut : Stmt := topS 5
theorem scTakenOut : FnScope ["n", "p", "many"] ["n", "p"] (defScope sTakenOut) := ⟨rfl, rfl, rfl, by decide +kernel, rfl, by decide +kernel, by decide +kernel⟩
abbrev sIsPrime : Stmt := topS 6
theorem scIsPrime : FnScope ["n", "p", "many", "odd", "base"] ["n"] (defScope sIsPrime) := ⟨rfl, rfl, rfl, by decide +kernel, rfl, by decide +kernel, by decide +kernel⟩
abbrev sBehavesAsPrime : Stmt := topS 7
theorem scBehavesAsPrime : FnScope ["n", "base", "many", "odd", "number", "_"] ["n", "base", "many", "odd"] (defScope sBehavesAsPrime) := ⟨rfl, rfl, rfl, by decide +kernel, rfl, by decide +kernel, by decide +kernel⟩
abbrev sPrimeParts : Stmt := topS 8
theorem scPrimeParts : FnScope ["n", "parts", "rest", "p", "many"] ["n"] (defScope sPrimeParts) := ⟨rfl, rfl, rfl, by decide +kernel, rfl, by decide +kernel, by decide +kernel⟩
abbrev sLeastMeasure : Stmt := topS 9
theorem scLeastMeasure : FnScope ["n", "start", "number"] ["n", "start"] (defScope sLeastMeasure) := ⟨rfl, rfl, rfl, by decide +kernel, rfl, by decide +kernel, by decide +kernel⟩
abbrev sSquareRoots : Stmt := topS 11
theorem scSquareRoots : FnScope ["d", "m", "roots", "modulus", "p", "many", "part"] ["d", "m"] (defScope sSquareRoots) := ⟨rfl, rfl, rfl, by decide +kernel, rfl, by decide +kernel, by decide +kernel⟩
abbrev sCountRoots : Stmt := topS 12
theorem scCountRoots : FnScope ["d", "m"] ["d", "m"] (defScope sCountRoots) := ⟨rfl, rfl, rfl, by decide +kernel, rfl, by decide +kernel, by decide +kernel⟩
abbrev sCountRootsByParts : Stmt := topS 13
theorem scCountRootsByParts : FnScope ["d", "parts", "found", "p", "many"] ["d", "parts"] (defScope sCountRootsByParts) := ⟨rfl, rfl, rfl, by decide +kernel, rfl, by decide +kernel, by decide +kernel⟩
abbrev sIsResidue : Stmt := topS 14
theorem scIsResidue : FnScope ["d", "p"] ["d", "p"] (defScope sIsResidue) := ⟨rfl, rfl, rfl, by decide +kernel, rfl, by decide +kernel, by decide +kernel⟩
abbrev sJoined : Stmt := topS 15
theorem scJoined : FnScope ["roots", "modulus", "others", "part", "inverse", "root", "other"] ["roots", "modulus", "others", "part"] (defScope sJoined) := ⟨rfl, rfl, rfl, by decide +kernel, rfl, by decide +kernel, by decide +kernel⟩
abbrev sCountPowerRoots : Stmt := topS 16
theorem scCountPowerRoots : FnScope ["d", "p", "many", "rest", "inside", "unit"] ["d", "p", "many"] (defScope sCountPowerRoots) := ⟨rfl, rfl, rfl, by decide +kernel, rfl, by decide +kernel, by decide +kernel⟩
abbrev sCountUnitRoots : Stmt := topS 17
theorem scCountUnitRoots : FnScope ["unit", "p", "many"] ["unit", "p", "many"] (defScope sCountUnitRoots) := ⟨rfl, rfl, rfl, by decide +kernel, rfl, by decide +kernel, by decide +kernel⟩
abbrev sPowerRoots : Stmt := topS 18
theorem scPowerRoots : FnScope ["d", "p", "many", "modulus", "rest", "inside", "unit", "half", "step", "root", "k"] ["d", "p", "many"] (defScope sPowerRoots) := ⟨rfl, rfl, rfl, by decide +kernel, rfl, by decide +kernel, by decide +kernel⟩
abbrev sUnitRoots : Stmt := topS 19
theorem scUnitRoots : FnScope ["unit", "p", "many", "root"] ["unit", "p", "many"] (defScope sUnitRoots) := ⟨rfl, rfl, rfl, by decide +kernel, rfl, by decide +kernel, by decide +kernel⟩
abbrev sUnitRootsOfTwo : Stmt := topS 20
theorem scUnitRootsOfTwo : FnScope ["unit", "many", "root", "modulus", "_", "half"] ["unit", "many"] (defScope sUnitRootsOfTwo) := ⟨rfl, rfl, rfl, by decide +kernel, rfl, by decide +kernel, by decide +kernel⟩
abbrev sPrimeRoot : Stmt := topS 21
theorem scPrimeRoot : FnScope ["unit", "p", "many", "odd", "root", "rest", "turn", "order", "_"] ["unit", "p"] (defScope sPrimeRoot) := ⟨rfl, rfl, rfl, by decide +kernel, rfl, by decide +kernel, by decide +kernel⟩
abbrev sLeastNonResidue : Stmt := topS 22
theorem scLeastNonResidue : FnScope ["p", "number"] ["p"] (defScope sLeastNonResidue) := ⟨rfl, rfl, rfl, by decide +kernel, rfl, by decide +kernel, by decide +kernel⟩
abbrev sDoublingsToOne : Stmt := topS 23
theorem scDoublingsToOne : FnScope ["number", "p", "many"] ["number", "p"] (defScope sDoublingsToOne) := ⟨rfl, rfl, rfl, by decide +kernel, rfl, by decide +kernel, by decide +kernel⟩
abbrev sLiftedRoot : Stmt := topS 24
theorem scLiftedRoot : FnScope ["root", "unit", "p", "many", "inverse", "modulus", "_"] ["root", "unit", "p", "many"] (defScope sLiftedRoot) := ⟨rfl, rfl, rfl, by decide +kernel, rfl, by decide +kernel, by decide +kernel⟩
abbrev sLawCell : Stmt := topS 26
theorem scLawCell : FnScope ["script", "k"] ["script", "k"] (defScope sLawCell) := ⟨rfl, rfl, rfl, by decide +kernel, rfl, by decide +kernel, by decide +kernel⟩
abbrev sLawNumbers : Stmt := topS 27
theorem scLawNumbers : FnScope ["cell", "many", "rest", "span", "numbers", "k", "mixed"] ["cell", "many"] (defScope sLawNumbers) := ⟨rfl, rfl, rfl, by decide +kernel, rfl, by decide +kernel, by decide +kernel⟩
abbrev sLawState : Stmt := topS 28
theorem scLawState : FnScope ["script", "numbers", "k"] ["script"] (defScope sLawState) := ⟨rfl, rfl, rfl, by decide +kernel, rfl, by decide +kernel, by decide +kernel⟩
abbrev sLawNext : Stmt := topS 29
theorem scLawNext : FnScope ["state", "many", "number"] ["state", "many"] (defScope sLawNext) := ⟨rfl, rfl, rfl, by decide +kernel, rfl, by decide +kernel, by decide +kernel⟩
abbrev sLawWide : Stmt := topS 30
theorem scLawWide : FnScope ["state", "many", "total", "k"] ["state", "many"] (defScope sLawWide) := ⟨rfl, rfl, rfl, by decide +kernel, rfl, by decide +kernel, by decide +kernel⟩
abbrev sLaw : Stmt := topS 31
theorem scLaw : FnScope ["script", "state", "powers", "m", "parts", "k", "part", "x", "d", "many", "told", "y"] ["script"] (defScope sLaw) := ⟨rfl, rfl, rfl, by decide +kernel, rfl, by decide +kernel, by decide +kernel⟩
structure Txt (K : PySem.W.Frag) (mg : Str → Option Value) (fa : Nat → Addr) (fd : Nat → FuncData) : Prop where
  F_bezout : Fun K "bezout" "bezout" sBezout (fa 0) (fd 0)
  B_bezout : Binds K (fd 0) ["a", "b"] []
  G_bezout : mg "bezout" = some (.ref (fa 0))
  F_power : Fun K "power" "power" sPower (fa 1) (fd 1)
  B_power : Binds K (fd 1) ["base", "many"] []
  G_power : mg "power" = some (.ref (fa 1))
  F_power_modulo : Fun K "power_modulo" "power_modulo" sPowerModulo (fa 2) (fd 2)
  B_power_modulo : Binds K (fd 2) ["base", "many", "modulus"] []
  G_power_modulo : mg "power_modulo" = some (.ref (fa 2))
  F_taken_out : Fun K "taken_out" "taken_out" sTakenOut (fa 3) (fd 3)
  B_taken_out : Binds K (fd 3) ["n", "p"] []
  G_taken_out : mg "taken_out" = some (.ref (fa 3))
  F_is_prime : Fun K "is_prime" "is_prime" sIsPrime (fa 4) (fd 4)
  B_is_prime : Binds K (fd 4) ["n"] []
  G_is_prime : mg "is_prime" = some (.ref (fa 4))
  F__behaves_as_prime : Fun K "_behaves_as_prime" "_behaves_as_prime" sBehavesAsPrime (fa 5) (fd 5)
  B__behaves_as_prime : Binds K (fd 5) ["n", "base", "many", "odd"] []
  G__behaves_as_prime : mg "_behaves_as_prime" = some (.ref (fa 5))
  F_prime_parts : Fun K "prime_parts" "prime_parts" sPrimeParts (fa 6) (fd 6)
  B_prime_parts : Binds K (fd 6) ["n"] []
  G_prime_parts : mg "prime_parts" = some (.ref (fa 6))
  F__least_measure : Fun K "_least_measure" "_least_measure" sLeastMeasure (fa 7) (fd 7)
  B__least_measure : Binds K (fd 7) ["n", "start"] []
  G__least_measure : mg "_least_measure" = some (.ref (fa 7))
  F_square_roots : Fun K "square_roots" "square_roots" sSquareRoots (fa 8) (fd 8)
  B_square_roots : Binds K (fd 8) ["d", "m"] []
  G_square_roots : mg "square_roots" = some (.ref (fa 8))
  F_count_roots : Fun K "count_roots" "count_roots" sCountRoots (fa 9) (fd 9)
  B_count_roots : Binds K (fd 9) ["d", "m"] []
  G_count_roots : mg "count_roots" = some (.ref (fa 9))
  F_count_roots_by_parts : Fun K "count_roots_by_parts" "count_roots_by_parts" sCountRootsByParts (fa 10) (fd 10)
  B_count_roots_by_parts : Binds K (fd 10) ["d", "parts"] []
  G_count_roots_by_parts : mg "count_roots_by_parts" = some (.ref (fa 10))
  F_is_residue : Fun K "is_residue" "is_residue" sIsResidue (fa 11) (fd 11)
  B_is_residue : Binds K (fd 11) ["d", "p"] []
  G_is_residue : mg "is_residue" = some (.ref (fa 11))
  F__joined : Fun K "_joined" "_joined" sJoined (fa 12) (fd 12)
  B__joined : Binds K (fd 12) ["roots", "modulus", "others", "part"] []
  G__joined : mg "_joined" = some (.ref (fa 12))
  F__count_power_roots : Fun K "_count_power_roots" "_count_power_roots" sCountPowerRoots (fa 13) (fd 13)
  B__count_power_roots : Binds K (fd 13) ["d", "p", "many"] []
  G__count_power_roots : mg "_count_power_roots" = some (.ref (fa 13))
  F__count_unit_roots : Fun K "_count_unit_roots" "_count_unit_roots" sCountUnitRoots (fa 14) (fd 14)
  B__count_unit_roots : Binds K (fd 14) ["unit", "p", "many"] []
  G__count_unit_roots : mg "_count_unit_roots" = some (.ref (fa 14))
  F__power_roots : Fun K "_power_roots" "_power_roots" sPowerRoots (fa 15) (fd 15)
  B__power_roots : Binds K (fd 15) ["d", "p", "many"] []
  G__power_roots : mg "_power_roots" = some (.ref (fa 15))
  F__unit_roots : Fun K "_unit_roots" "_unit_roots" sUnitRoots (fa 16) (fd 16)
  B__unit_roots : Binds K (fd 16) ["unit", "p", "many"] []
  G__unit_roots : mg "_unit_roots" = some (.ref (fa 16))
  F__unit_roots_of_two : Fun K "_unit_roots_of_two" "_unit_roots_of_two" sUnitRootsOfTwo (fa 17) (fd 17)
  B__unit_roots_of_two : Binds K (fd 17) ["unit", "many"] []
  G__unit_roots_of_two : mg "_unit_roots_of_two" = some (.ref (fa 17))
  F__prime_root : Fun K "_prime_root" "_prime_root" sPrimeRoot (fa 18) (fd 18)
  B__prime_root : Binds K (fd 18) ["unit", "p"] []
  G__prime_root : mg "_prime_root" = some (.ref (fa 18))
  F__least_non_residue : Fun K "_least_non_residue" "_least_non_residue" sLeastNonResidue (fa 19) (fd 19)
  B__least_non_residue : Binds K (fd 19) ["p"] []
  G__least_non_residue : mg "_least_non_residue" = some (.ref (fa 19))
  F__doublings_to_one : Fun K "_doublings_to_one" "_doublings_to_one" sDoublingsToOne (fa 20) (fd 20)
  B__doublings_to_one : Binds K (fd 20) ["number", "p"] []
  G__doublings_to_one : mg "_doublings_to_one" = some (.ref (fa 20))
  F__lifted_root : Fun K "_lifted_root" "_lifted_root" sLiftedRoot (fa 21) (fd 21)
  B__lifted_root : Binds K (fd 21) ["root", "unit", "p", "many"] []
  G__lifted_root : mg "_lifted_root" = some (.ref (fa 21))
  F__law_cell : Fun K "_law_cell" "_law_cell" sLawCell (fa 22) (fd 22)
  B__law_cell : Binds K (fd 22) ["script", "k"] []
  G__law_cell : mg "_law_cell" = some (.ref (fa 22))
  F__law_numbers : Fun K "_law_numbers" "_law_numbers" sLawNumbers (fa 23) (fd 23)
  B__law_numbers : Binds K (fd 23) ["cell", "many"] []
  G__law_numbers : mg "_law_numbers" = some (.ref (fa 23))
  F__law_state : Fun K "_law_state" "_law_state" sLawState (fa 24) (fd 24)
  B__law_state : Binds K (fd 24) ["script"] []
  G__law_state : mg "_law_state" = some (.ref (fa 24))
  F__law_next : Fun K "_law_next" "_law_next" sLawNext (fa 25) (fd 25)
  B__law_next : Binds K (fd 25) ["state", "many"] []
  G__law_next : mg "_law_next" = some (.ref (fa 25))
  F__law_wide : Fun K "_law_wide" "_law_wide" sLawWide (fa 26) (fd 26)
  B__law_wide : Binds K (fd 26) ["state", "many"] []
  G__law_wide : mg "_law_wide" = some (.ref (fa 26))
  F_law : Fun K "law" "law" sLaw (fa 27) (fd 27)
  B_law : Binds K (fd 27) ["script"] []
  G_law : mg "law" = some (.ref (fa 27))
  g_WITNESSES : mg "WITNESSES" = some (.ref (fa 28))
  S_WITNESSES : ∀ H, SqT K H (fa 28) [.int 2, .int 3, .int 5, .int 7, .int 11, .int 13, .int 17, .int 19, .int 23, .int 29, .int 31, .int 37]
  m_abs : mg "abs" = none
  m_int : mg "int" = none
  m_len : mg "len" = none
  m_list : mg "list" = none
  m_max : mg "max" = none
  m_range : mg "range" = none
  m_sorted : mg "sorted" = none

/-! ### heaps, draws -/
theorem same_upd {H : Hp} {p : Addr} {o : HO} (h : H p = none) : Same H (upd H p o) := fun b x e => by
  rw [upd_ne (ne_of_none e h)]
  exact e
theorem same_mut {H0 H : Hp} {p : Addr} {o : HO} (s : Same H0 H) (h : H0 p = none) : Same H0 (upd H p o) := fun b x e => by
  rw [upd_ne (ne_of_none e h)]
  exact s _ _ e
theorem same_off {H H' : Hp} {p : Addr} {o : HO} {q : Addr} (f : ∀ b, b ≠ p → H' b = H b) (n : q ≠ p) (h : H q = some o) : H' q = some o := by
  rw [f q n]
  exact h
/-- the state of the draws: the list at p, its numbers at a, at most N draws so far -/
def Dw (H : Hp) (p a : Addr) (N : Nat) : Prop := ∃ (m : Nat) (ns : List Int), m ≤ N ∧ a ≠ p ∧ H p = some (.lst [.ref a, .int (m : Int)]) ∧ H a = some (.lst (ns.map V.int)) ∧ ns.length = 120 ∧ ∀ n ∈ ns, 0 ≤ n ∧ n < 1000
theorem Dw.same {H H' : Hp} {p a : Addr} {N : Nat} (s : Same H H') (d : Dw H p a N) : Dw H' p a N := by
  obtain ⟨m, ns, h1, h2, h3, h4, h5⟩ := d
  exact ⟨m, ns, h1, h2, s _ _ h3, s _ _ h4, h5⟩
theorem Dw.mono {H : Hp} {p a : Addr} {N M : Nat} (d : Dw H p a N) (h : N ≤ M) : Dw H p a M := by
  obtain ⟨m, ns, h1, h2⟩ := d
  exact ⟨m, ns, Nat.le_trans h1 h, h2⟩
theorem Dw.new {H : Hp} {p a q : Addr} {o : HO} {N : Nat} (d : Dw H p a N) (h : H q = none) : Dw (upd H q o) p a N := d.same (same_upd h)
theorem Dw.ne {H : Hp} {p a q : Addr} {N : Nat} (d : Dw H p a N) (h : H q = none) : q ≠ p ∧ q ≠ a := by
  obtain ⟨m, ns, h1, h2, h3, h4, h5⟩ := d
  exact ⟨(ne_of_none h3 h).symm, (ne_of_none h4 h).symm⟩
theorem Dw.mut {H : Hp} {p a q : Addr} {o : HO} {N : Nat} (d : Dw H p a N) (hp : q ≠ p) (ha : q ≠ a) : Dw (upd H q o) p a N := by
  obtain ⟨m, ns, h1, h2, h3, h4, h5⟩ := d
  exact ⟨m, ns, h1, h2, by rw [upd_ne hp.symm]; exact h3, by rw [upd_ne ha.symm]; exact h4, h5⟩
theorem at_mem {α : Type} {xs : List α} {r : Int} (h0 : 0 ≤ r) (h1 : r < xs.length) : ∃ v, v ∈ xs ∧ atI xs r = some v := by
  obtain ⟨j, rfl⟩ := Int.eq_ofNat_of_zero_le h0
  have hj : j < xs.length := by omega
  exact ⟨xs[j], List.getElem_mem hj, atI_nat (List.getElem?_eq_getElem hj)⟩
theorem at_int {ns : List Int} {r : Int} (h0 : 0 ≤ r) (h1 : r < ns.length) : ∃ n ∈ ns, atI (ns.map V.int) r = some (.int n) := by
  obtain ⟨v, hv, e⟩ := at_mem (xs := ns.map V.int) h0 (by rw [List.length_map]; exact h1)
  obtain ⟨n, hn, rfl⟩ := List.mem_map.mp hv
  exact ⟨n, hn, e⟩
theorem pow_ok {i j : Int} (h : 0 ≤ j ∧ j ≤ 1000000 ∧ i.natAbs < 2 ^ 64) : CPow i j := h
theorem wayF {c A B : Prop} [Decidable c] (h : ¬ c) (b : B) : if decide c = true then A else B := by
  rw [if_neg (fun z => h (of_decide_eq_true z))]
  exact b
theorem wayT {c A B : Prop} [Decidable c] (h : c) (a : A) : if decide c = true then A else B := by
  rw [if_pos (decide_eq_true h)]
  exact a
theorem wayNF {c A B : Prop} [Decidable c] (h : c) (b : B) : if (!decide c) = true then A else B := by
  rw [decide_eq_true h]
  exact iteF b
theorem wayNT {c A B : Prop} [Decidable c] (h : ¬ c) (a : A) : if (!decide c) = true then A else B := by
  rw [decide_eq_false h]
  exact iteT a
theorem way2 {c A B : Prop} [Decidable c] (h1 : c → A) (h2 : ¬ c → B) : if decide c = true then A else B := by
  by_cases h : c
  · exact wayT h (h1 h)
  · exact wayF h (h2 h)
theorem wayN2 {c A B : Prop} [Decidable c] (h1 : ¬ c → A) (h2 : c → B) : if (!decide c) = true then A else B := by
  by_cases h : c
  · exact wayNF h (h2 h)
  · exact wayNT h (h1 h)
theorem abs_int (i : Int) : (if i < 0 then -i else i) = (i.natAbs : Int) := by
  split <;> omega
theorem small200 {n : Nat} (h : n ≤ 1000) : n ≤ sizeLine := Nat.le_of_lt (small1000 h)
/-! ### data: == of lists and tuples -/
theorem dp_ints {K : PySem.W.Frag} {H : Hp} : ∀ ns : List Int, DpAll K H (ns.map V.int) (ns.map PyData.int)
  | [] => .nil
  | n :: ns => .cons (.int n) (dp_ints ns)
theorem lay_ints : ∀ ns : List Int, PyData.canLayAll0 (ns.map PyData.int) = true
  | [] => rfl
  | n :: ns => by
    rw [List.map_cons, PyData.canLayAll0, lay_ints ns]
    rfl
theorem depth_ints : ∀ ns : List Int, PyData.depthAll (ns.map PyData.int) = 0
  | [] => rfl
  | n :: ns => by
    rw [List.map_cons, PyData.depthAll, depth_ints ns]
    rfl
theorem shaped_ints (ns : List Int) : SeqAt.shaped (.list (ns.map PyData.int)) = true := by
  show (PyData.canLay0 (.list (ns.map PyData.int)) && decide (PyData.depth (.list (ns.map PyData.int)) ≤ 64)) = true
  rw [Bool.and_eq_true]
  refine ⟨by rw [PyData.canLay0]; exact lay_ints ns, decide_eq_true ?_⟩
  rw [PyData.depth, depth_ints]
  decide
theorem shaped_intsT (ns : List Int) : SeqAt.shaped (.tuple (ns.map PyData.int)) = true := by
  show (PyData.canLay0 (.tuple (ns.map PyData.int)) && decide (PyData.depth (.tuple (ns.map PyData.int)) ≤ 64)) = true
  rw [Bool.and_eq_true]
  refine ⟨by rw [PyData.canLay0]; exact lay_ints ns, decide_eq_true ?_⟩
  rw [PyData.depth, depth_ints]
  decide
theorem eqD_same {K : PySem.W.Frag} {H : Hp} {x y : V} {Q : VK} {d : PyData} (hx : Dp K H x d) (hy : Dp K H y d) (sh : SeqAt.shaped d = true) (q : Q (.bl true) H) : rEqD K x y H Q :=
  ⟨d, d, hx, hy, sh, sh, by rw [SeqAt.eqv_refl d (SeqAt.canLay_of_shaped sh)]; exact q⟩
theorem neD_same {K : PySem.W.Frag} {H : Hp} {x y : V} {Q : VK} {d : PyData} (hx : Dp K H x d) (hy : Dp K H y d) (sh : SeqAt.shaped d = true) (q : Q (.bl false) H) : rNeD K x y H Q :=
  ⟨d, d, hx, hy, sh, sh, by rw [SeqAt.eqv_refl d (SeqAt.canLay_of_shaped sh)]; exact q⟩
/-! ### slices -/
theorem cut_to (ns : List Int) (k : Nat) : cutV (ns.map V.int) none (some (k : Int)) = (ns.take k).map V.int := by
  unfold cutV
  rw [HT.sIx_none, HT.sIx_nat, List.drop_zero, List.map_take, Nat.sub_zero, List.length_map]
  by_cases h : k ≤ ns.length
  · rw [Nat.min_eq_left h]
  · rw [Nat.min_eq_right (by omega), List.take_of_length_le (by rw [List.length_map]; omega), List.take_of_length_le (by rw [List.length_map]; omega)]
theorem cut_from (xs : List V) (k : Nat) : cutV xs (some (k : Int)) none = xs.drop k := by
  unfold cutV
  rw [HT.sIx_none, HT.sIx_nat]
  by_cases h : k ≤ xs.length
  · rw [Nat.min_eq_left h, List.take_of_length_le (by rw [List.length_drop]; omega)]
  · rw [Nat.min_eq_right (by omega), List.drop_of_length_le (by omega), List.drop_of_length_le (by omega)]
    exact List.take_nil
theorem isiF {K : PySem.W.Frag} {H : Hp} {i : Int} {Q : VK} (q : Q (.bl false) H) : rIsi K [.int i, .ty "bool"] H Q := ⟨_, _, _, _, false, rfl, ClsV.ty _, TyX.base (.int i), kit_ty (by decide +kernel), q⟩
theorem isiT {K : PySem.W.Frag} {H : Hp} {b : Bool} {Q : VK} (q : Q (.bl true) H) : rIsi K [.bl b, .ty "bool"] H Q := ⟨_, _, _, _, true, rfl, ClsV.ty _, TyX.base (.bl b), kit_ty (by decide +kernel), q⟩
theorem isiTup {K : PySem.W.Frag} {H : Hp} {a : Addr} {xs : List V} {Q : VK} (h : H a = some (.tup xs)) (q : Q (.bl true) H) : rIsi K [.ref a, .ty "tuple"] H Q := ⟨_, _, _, _, true, rfl, ClsV.ty _, TyX.base (.tup h), kit_ty (by decide +kernel), q⟩
theorem isiLst {K : PySem.W.Frag} {H : Hp} {a : Addr} {xs : List V} {Q : VK} (h : H a = some (.lst xs)) (q : Q (.bl true) H) : rIsi K [.ref a, .ty "list"] H Q := ⟨_, _, _, _, true, rfl, ClsV.ty _, TyX.base (.lst h), kit_ty (by decide +kernel), q⟩
/-! ### rules with the written part named -/
section
variable {X : Cx}
def rLenQ (K : PySem.W.Frag) : List V → Hp → VK → Prop := fun xs H Q => ∃ p ys, xs = [.ref p] ∧ (SqL K H p ys ∨ SqT K H p ys) ∧ Q (.int ys.length) H
def rListQ (K : PySem.W.Frag) : List V → Hp → VK → Prop := fun xs H Q => ∃ p ys, xs = [.ref p] ∧ (SqL K H p ys ∨ SqT K H p ys) ∧ ∀ l, H l = none → Q (.ref l) (upd H l (.lst ys))
def rTupQ (K : PySem.W.Frag) : List V → Hp → VK → Prop := fun xs H Q => ∃ p ys, xs = [.ref p] ∧ ((SqL K H p ys ∧ ∀ l, H l = none → Q (.ref l) (upd H l (.tup ys))) ∨ (SqT K H p ys ∧ Q (.ref p) H))
theorem ixL (K : PySem.W.Frag) (h : X.K = K := by rfl) : IxR X (rIxL K) := by subst h; exact ix_list
theorem ixT (K : PySem.W.Frag) (h : X.K = K := by rfl) : IxR X (rIxT K) := by subst h; exact ix_tup
theorem slL (K : PySem.W.Frag) (h : X.K = K := by rfl) : SlR X (rSlL K) := by subst h; exact sl_list
theorem slT (K : PySem.W.Frag) (h : X.K = K := by rfl) : SlR X (rSlT K) := by subst h; exact sl_tup
theorem lenQ (K : PySem.W.Frag) (h : X.K = K := by rfl) : CallR X (.builtin "len") (rLenQ K) := by subst h; exact call_len_seq
theorem listQ (K : PySem.W.Frag) (h : X.K = K := by rfl) : CallR X (.type "list") (rListQ K) := by subst h; exact call_list_of
theorem tupQ (K : PySem.W.Frag) (h : X.K = K := by rfl) : CallR X (.type "tuple") (rTupQ K) := by subst h; exact call_tuple_of
theorem isiQ (K : PySem.W.Frag) (h : X.K = K := by rfl) : CallR X (.builtin "isinstance") (rIsi K) := by subst h; exact call_isi
theorem eqDQ (K : PySem.W.Frag) (hu : X.A.units + 64 < cLine) (h : X.K = K := by rfl) : OpR X (compareOp .Eq) (rEqD K) := by subst h; exact op_eqD hu
theorem neDQ (K : PySem.W.Frag) (hu : X.A.units + 64 < cLine) (h : X.K = K := by rfl) : OpR X (compareOp .NotEq) (rNeD K) := by subst h; exact op_neD hu
theorem piL (K : PySem.W.Frag) {tg l : Expr} {tl : TE} (hl : PE X l tl) (h : X.K = K := by rfl) : PI X tg l (iList K tl) := by subst h; exact pi_list hl
theorem piT (K : PySem.W.Frag) {tg l : Expr} {tl : TE} (hl : PE X l tl) (h : X.K = K := by rfl) : PI X tg l (iTup K tl) := by subst h; exact pi_tup hl
theorem inQ (K : PySem.W.Frag) (h : X.K = K := by rfl) : OpR X (compareOp .In) (rIn K false) := by subst h; exact op_in_seq
theorem notInQ (K : PySem.W.Frag) (h : X.K = K := by rfl) : OpR X (compareOp .NotIn) (rIn K true) := by subst h; exact op_notIn_seq
end
/-! ### great numbers -/
section
variable {X : Cx}
/-- // by any divisor below 2 ^ 9000 -/
def CDivX (_ j : Int) : Prop := j ≠ 0 ∧ j.natAbs < 2 ^ 9000
theorem op_fdivX : OpR X (binaryOp .FloorDiv) (rI CDivX fun i j => .int (i.fdiv j)) := opI fun i j _ _ _ _ _ hc q =>
  floordiv_int hc.1 q (.inl (PyProof.noPylong_of_log2 (PySem.Flt.log2_lt_of (by decide) hc.2)))
end
theorem pow_up {n a b : Nat} (h : n < 2 ^ a) (hab : a ≤ b) : n < 2 ^ b := Nat.lt_of_lt_of_le h (Nat.pow_le_pow_right (by decide) hab)

/-! ### whole roots -/
section
variable {X : Cx}
theorem cr_isqrt : CallR X (.builtin "math.isqrt") (fun vs H Q => ∃ i : Int, vs = [.int i] ∧ 0 ≤ i ∧ i.natAbs < 2 ^ 13000 ∧ Q (.int ((Float64.isqrt i.toNat : Nat) : Int)) H) := by
  intro pins s σ H vs us Q I r h
  obtain ⟨i, rfl, h0, h1, q⟩ := h
  obtain ⟨u, rfl, t, rfl⟩ := vals1 r
  have hl : i.toNat.log2 < 13000 := PySem.Flt.log2_lt_of (by decide) (by omega)
  exact call_function_meets PySem.W.MGF.kind_isqrt PySem.W.MGF.plain_isqrt PySem.W.MGF.entry_isqrt (PySem.W.MGF.args_isqrt _) (PySem.W.mg_run_isqrt i t (by omega) (by omega) (by omega)).meets ⟨.int _, H, I.tok _, ⟨_, rfl⟩, q⟩
end
def rootI (n : Int) : Int := ((Float64.isqrt n.toNat : Nat) : Int)
theorem rootI_spec {n : Int} (h : 0 ≤ n) : 0 ≤ rootI n ∧ rootI n * rootI n ≤ n ∧ n < (rootI n + 1) * (rootI n + 1) := by
  obtain ⟨k, rfl⟩ := Int.eq_ofNat_of_zero_le h
  have e := Float64.isqrt_spec k
  unfold rootI
  have e2 : Int.toNat (k : Int) = k := rfl
  rw [e2]
  generalize Float64.isqrt k = m at e ⊢
  refine ⟨Int.natCast_nonneg m, ?_, ?_⟩
  · exact_mod_cast e.1
  · exact_mod_cast e.2
theorem rootI_lt {n : Int} {b : Nat} (h : 0 ≤ n) (hb : n.natAbs < 2 ^ b) : (rootI n).natAbs < 2 ^ b := by
  obtain ⟨h0, h1, h2⟩ := rootI_spec h
  have h3 : rootI n ≤ n := by
    by_cases e : rootI n = 0
    · omega
    · have h4 : 1 * rootI n ≤ rootI n * rootI n := Int.mul_le_mul_of_nonneg_right (by omega) h0
      omega
  omega
/-! ### common measures -/
def gI (a b : Int) : Int := ((Nat.gcd a.natAbs b.natAbs : Nat) : Int)
theorem gI_nn (a b : Int) : 0 ≤ gI a b := Int.natCast_nonneg _
theorem gI_lt {a b : Int} {B : Nat} (ha : a.natAbs < B) (hb : b.natAbs < B) : (gI a b).natAbs < B := by
  unfold gI
  rw [Int.natAbs_natCast]
  by_cases h : a.natAbs = 0
  · rw [h, Nat.gcd_zero_left]
    exact hb
  · exact Nat.lt_of_le_of_lt (Nat.gcd_le_left _ (by omega)) ha
def gL (ns : List Int) : Int := ns.foldl gI 0
theorem gL_take {ns : List Int} {i : Nat} {x : Int} (h : ns[i]? = some x) : gL (ns.take (i + 1)) = gI (gL (ns.take i)) x := by
  unfold gL
  rw [List.take_add_one, h, List.foldl_append]
  rfl
/-- one step of the walk of measures: what // and the rest are -/
theorem fd_rest {g r : Int} (h : r ≠ 0) : (g - g.fdiv r * r).natAbs < r.natAbs ∧ (0 < r → 0 ≤ g - g.fdiv r * r) ∧ (r < 0 → g - g.fdiv r * r ≤ 0) := by
  have e : g - g.fdiv r * r = g.fmod r := by
    rw [Int.fmod_def, Int.mul_comm]
  rw [e]
  by_cases hr : 0 < r
  · have h1 := Int.fmod_nonneg_of_pos g hr
    have h2 := Int.fmod_lt_of_pos g hr
    refine ⟨by omega, fun _ => h1, fun _ => by omega⟩
  · have h1 := Int.fmod_nonneg_of_pos (-g) (b := -r) (by omega)
    have h2 := Int.fmod_lt_of_pos (-g) (b := -r) (by omega)
    rw [Int.neg_fmod_neg] at h1 h2
    refine ⟨by omega, fun _ => by omega, fun _ => by omega⟩
theorem gcd_step (g q r : Int) : Nat.gcd r.natAbs (g - q * r).natAbs = Nat.gcd g.natAbs r.natAbs := by
  have e1 : Int.gcd r (g - q * r) = Int.gcd r g := by
    rw [Int.sub_eq_add_neg, ← Int.neg_mul]
    exact Int.gcd_add_mul_right_right ..
  have e2 : Int.gcd r g = Int.gcd g r := Int.gcd_comm r g
  exact e1.trans e2
theorem step_lt {g rest u ru q r B : Nat} (hg : g = q * rest + r) (h : ru * g + u * rest ≤ B) : (u + q * ru) * rest + ru * r ≤ B := by
  have e : (u + q * ru) * rest + ru * r = ru * g + u * rest := by
    rw [hg, Nat.add_mul, Nat.mul_add, Nat.mul_comm q ru, Nat.mul_assoc]
    omega
  omega
/-- the state of bezout's walk -/
def Bz (a b g u v r ru rv : Int) : Prop := u * a + v * b = g ∧ ru * a + rv * b = r ∧ (((Nat.gcd g.natAbs r.natAbs : Nat) : Int) = gI a b ∧ u.natAbs ≤ a.natAbs + 2 * b.natAbs + 1 ∧ v.natAbs ≤ a.natAbs + 2 * b.natAbs + 1) ∧
  ((g = a ∧ r = b ∧ u = 1 ∧ v = 0 ∧ ru = 0 ∧ rv = 1) ∨
    (((0 ≤ g ∧ 0 ≤ r) ∨ (g ≤ 0 ∧ r ≤ 0)) ∧ g.natAbs ≤ b.natAbs ∧ r.natAbs < g.natAbs ∧
      ru.natAbs * g.natAbs + u.natAbs * r.natAbs ≤ a.natAbs + 2 * b.natAbs ∧ rv.natAbs * g.natAbs + v.natAbs * r.natAbs ≤ a.natAbs + 2 * b.natAbs))
theorem same_div {g r : Int} (h : (0 ≤ g ∧ 0 < r) ∨ (g ≤ 0 ∧ r < 0)) : g.natAbs = (g.fdiv r).natAbs * r.natAbs + (g - g.fdiv r * r).natAbs := by
  have hr : r ≠ 0 := by omega
  obtain ⟨h1, h2, h3⟩ := fd_rest (g := g) hr
  have hq : 0 ≤ g.fdiv r := by
    rcases h with ⟨a, b⟩ | ⟨a, b⟩
    · exact Int.fdiv_nonneg a (by omega)
    · rw [← Int.neg_fdiv_neg]
      exact Int.fdiv_nonneg (by omega) (by omega)
  obtain ⟨q, e⟩ := Int.eq_ofNat_of_zero_le hq
  rw [e] at h2 h3 ⊢
  rcases h with ⟨a, b⟩ | ⟨a, b⟩
  · have k := h2 b
    have z : g = (q : Int) * r + (g - (q : Int) * r) := by omega
    obtain ⟨r', rfl⟩ := Int.eq_ofNat_of_zero_le (show 0 ≤ r by omega)
    have e2 : ((q * r' : Nat) : Int) = (q : Int) * (r' : Int) := Int.natCast_mul q r'
    rw [Int.natAbs_natCast, Int.natAbs_natCast]
    rw [← e2] at k ⊢
    omega
  · have k := h3 b
    obtain ⟨r', hr'⟩ := Int.eq_ofNat_of_zero_le (show 0 ≤ -r by omega)
    have er : r = -(r' : Int) := by omega
    subst er
    have e2 : ((q * r' : Nat) : Int) = (q : Int) * (r' : Int) := Int.natCast_mul q r'
    rw [Int.mul_neg, ← e2] at k ⊢
    rw [Int.natAbs_natCast, Int.natAbs_neg, Int.natAbs_natCast]
    omega
theorem abs_sub_mul (u q ru : Int) : (u - q * ru).natAbs ≤ u.natAbs + q.natAbs * ru.natAbs := by
  rw [← Int.natAbs_mul]
  omega
theorem Bz.size {a b g u v r ru rv : Int} (h : Bz a b g u v r ru rv) (hr : r ≠ 0) : (g.fdiv r).natAbs ≤ a.natAbs + b.natAbs + 1 ∧ r.natAbs ≤ b.natAbs ∧ ru.natAbs ≤ a.natAbs + 2 * b.natAbs + 1 ∧ rv.natAbs ≤ a.natAbs + 2 * b.natAbs + 1 := by
  obtain ⟨h1, h2, h3, h4⟩ := h
  obtain ⟨k1, k2, k3⟩ := fd_rest (g := g) hr
  have z2 : (g.fdiv r).natAbs * r.natAbs ≤ g.natAbs + r.natAbs := by
    rw [← Int.natAbs_mul]
    omega
  have z3 : (g.fdiv r).natAbs ≤ g.natAbs + 1 := by
    by_cases z : (g.fdiv r).natAbs ≤ g.natAbs + 1
    · exact z
    · have z4 : (g.natAbs + 2) * r.natAbs ≤ (g.fdiv r).natAbs * r.natAbs := Nat.mul_le_mul_right _ (by omega)
      have z5 : g.natAbs * 1 ≤ g.natAbs * r.natAbs := Nat.mul_le_mul_left _ (by omega)
      rw [Nat.add_mul] at z4
      omega
  rcases h4 with ⟨e1, e2, e3, e4, e5, e6⟩ | ⟨e1, e2, e3, e4, e5⟩
  · rw [e5, e6]
    refine ⟨?_, ?_, ?_, ?_⟩ <;> first | omega | (subst e1 e2; omega)
  · have z4 : ru.natAbs * 1 ≤ ru.natAbs * g.natAbs := Nat.mul_le_mul_left _ (by omega)
    have z5 : rv.natAbs * 1 ≤ rv.natAbs * g.natAbs := Nat.mul_le_mul_left _ (by omega)
    refine ⟨by omega, by omega, by omega, by omega⟩
theorem Bz.step {a b g u v r ru rv : Int} (h : Bz a b g u v r ru rv) (hr : r ≠ 0) : Bz a b r ru rv (g - g.fdiv r * r) (u - g.fdiv r * ru) (v - g.fdiv r * rv) := by
  have sz := h.size hr
  obtain ⟨h1, h2, h3, h4⟩ := h
  obtain ⟨k1, k2, k3⟩ := fd_rest (g := g) hr
  refine ⟨h2, ?_, ⟨by rw [gcd_step]; exact h3.1, sz.2.2⟩, .inr ⟨?_, ?_, k1, ?_, ?_⟩⟩
  · rw [← h1, ← h2]
    generalize (u * a + v * b).fdiv (ru * a + rv * b) = q
    rw [Int.sub_mul, Int.sub_mul, Int.mul_add, Int.mul_assoc, Int.mul_assoc]
    omega
  · by_cases z : 0 < r
    · exact .inl ⟨by omega, k2 z⟩
    · exact .inr ⟨by omega, k3 (by omega)⟩
  · rcases h4 with ⟨e1, e2, _⟩ | ⟨_, e2, e3, _⟩
    · rw [e2]
      omega
    · omega
  · rcases h4 with ⟨e1, e2, e3, e4, e5, e6⟩ | ⟨e1, e2, e3, e4, e5⟩
    · rw [e3, e5, e2]
      simp
      omega
    · refine Nat.le_trans (Nat.add_le_add_right (Nat.mul_le_mul_right _ (abs_sub_mul u (g.fdiv r) ru)) _) (step_lt (same_div ?_) e4)
      omega
  · rcases h4 with ⟨e1, e2, e3, e4, e5, e6⟩ | ⟨e1, e2, e3, e4, e5⟩
    · rw [e4, e6]
      have z := abs_sub_mul 0 (g.fdiv r) 1
      have z2 : (g.fdiv r).natAbs * r.natAbs ≤ g.natAbs + r.natAbs := by
        rw [← Int.natAbs_mul]
        omega
      have z3 := Nat.mul_le_mul_right r.natAbs z
      have z4 : (Int.natAbs 0 + (g.fdiv r).natAbs * Int.natAbs 1) * r.natAbs = (g.fdiv r).natAbs * r.natAbs := by simp
      rw [z4] at z3
      have z5 : Int.natAbs 1 * (g - g.fdiv r * r).natAbs = (g - g.fdiv r * r).natAbs := by simp
      rw [z5]
      subst e1 e2
      omega
    · refine Nat.le_trans (Nat.add_le_add_right (Nat.mul_le_mul_right _ (abs_sub_mul v (g.fdiv r) rv)) _) (step_lt (same_div ?_) e5)
      omega

/-! ### continued fractions -/
def partI (p q root : Int) : Int := if 0 < q then (p + root).fdiv q else (p + root + 1).fdiv q
def nxt (d root : Int) (s : Int × Int) : Int × Int := (partI s.1 s.2 root * s.2 - s.1, (d - (partI s.1 s.2 root * s.2 - s.1) * (partI s.1 s.2 root * s.2 - s.1)).fdiv s.2)
def cf (d root : Int) (s : Int × Int) : Nat → Int × Int
  | 0 => s
  | k + 1 => nxt d root (cf d root s k)
def cfa (d : Int) (s : Int × Int) (i : Nat) : Int := partI (cf d (rootI d) s i).1 (cf d (rootI d) s i).2 (rootI d)
/-- what the walk of expand wants -/
def ExOk (p q d : Int) (n j : Nat) : Prop := 0 ≤ d ∧ d < 2 ^ 60 ∧ rootI d * rootI d ≠ d ∧ q ≠ 0 ∧ (d - p * p).fmod q = 0 ∧ j < n ∧ n ≤ 100000 ∧ cf d (rootI d) (p, q) n = cf d (rootI d) (p, q) j ∧
  (∀ a b, a < b → b < n → cf d (rootI d) (p, q) a ≠ cf d (rootI d) (p, q) b) ∧ ∀ i, i ≤ n → (cf d (rootI d) (p, q) i).1.natAbs < 2 ^ 60 ∧ (cf d (rootI d) (p, q) i).2.natAbs < 2 ^ 60 ∧ (cf d (rootI d) (p, q) i).2 ≠ 0
def ckey (s : Int × Int) : List Key := [.inl s.1, .inl s.2]
theorem ckey_inj {s t : Int × Int} (h : ckey s = ckey t) : s = t := by
  unfold ckey at h
  injection h with h1 h2
  injection h2 with h2 _
  injection h1 with h1
  injection h2 with h2
  exact Prod.ext h1 h2
def ckv (f : Nat → Int × Int) (n : Nat) : List (List Key × V) := (List.range n).map fun i => (ckey (f i), V.int (i : Int))
theorem ckv_succ (f : Nat → Int × Int) (n : Nat) : ckv f (n + 1) = ckv f n ++ [(ckey (f n), V.int (n : Int))] := by
  unfold ckv
  rw [List.range_succ, List.map_append]
  rfl
theorem ckv_len (f : Nat → Int × Int) (n : Nat) : (ckv f n).length = n := by
  unfold ckv
  rw [List.length_map, List.length_range]
theorem valV_app {κ : Type} [DecidableEq κ] (xs : List (κ × V)) (k : κ) (v : V) (k' : κ) : valV (xs ++ [(k, v)]) k' = (match valV xs k' with | some z => some z | none => if k = k' then some v else none) := by
  unfold valV
  rw [List.find?_append]
  cases h : xs.find? fun kv => decide (kv.1 = k') with
  | some z => rfl
  | none =>
    by_cases e : k = k'
    · simp [e]
    · simp [e]
theorem ckv_none {f : Nat → Int × Int} : ∀ {n : Nat} {s : Int × Int}, (∀ i, i < n → f i ≠ s) → valV (ckv f n) (ckey s) = none
  | 0, _, _ => rfl
  | n + 1, s, h => by
    rw [ckv_succ, valV_app, ckv_none fun i hi => h i (by omega)]
    exact if_neg fun e => h n (by omega) (ckey_inj e)
theorem ckv_some {f : Nat → Int × Int} {s : Int × Int} {j : Nat} (hj : f j = s) : ∀ {n : Nat}, j < n → (∀ i, i < j → f i ≠ s) → valV (ckv f n) (ckey s) = some (.int (j : Int))
  | 0, h, _ => absurd h (by omega)
  | n + 1, h, k => by
    rw [ckv_succ, valV_app]
    by_cases e : j < n
    · rw [ckv_some hj e k]
    · have e1 : j = n := by omega
      subst e1
      rw [ckv_none k]
      exact if_pos (congrArg ckey hj)
theorem ckv_put {f : Nat → Int × Int} {n : Nat} (h : ∀ i, i < n → f i ≠ f n) : putK (ckv f n) (ckey (f n)) (.int (n : Int)) = ckv f (n + 1) := by
  unfold putK
  rw [valV_any, ckv_none h, ckv_succ]
  exact if_neg Bool.false_ne_true
/-! ### reduced pairs -/
structure Red (d root P Q : Int) : Prop where
  q0 : 0 < Q
  p1 : P ≤ root
  lo : root - P < Q
  hi : Q ≤ root + P
  dv : Q ∣ d - P * P
theorem partI_pos {p q root : Int} (h : 0 < q) : partI p q root = (p + root) / q := by
  unfold partI
  rw [if_pos h, Int.fdiv_eq_ediv_of_nonneg _ (by omega)]
theorem nxt_exact {d root P Q : Int} (h : Q ≠ 0) (dv : Q ∣ d - P * P) : (nxt d root (P, Q)).2 * Q = d - (nxt d root (P, Q)).1 * (nxt d root (P, Q)).1 := by
  obtain ⟨c, hc⟩ := dv
  unfold nxt
  show (d - (partI P Q root * Q - P) * (partI P Q root * Q - P)).fdiv Q * Q = d - (partI P Q root * Q - P) * (partI P Q root * Q - P)
  generalize partI P Q root = a
  refine Int.fdiv_mul_cancel_of_fmod_eq_zero (Int.fmod_eq_zero_of_dvd ⟨c - a * a * Q + 2 * a * P, ?_⟩)
  grind
theorem Red.step {d root P Q : Int} (r0 : 0 ≤ root) (h1 : root * root < d) (h2 : d < (root + 1) * (root + 1)) (R : Red d root P Q) : Red d root (nxt d root (P, Q)).1 (nxt d root (P, Q)).2 := by
  have ex := nxt_exact (root := root) (Int.ne_of_gt R.q0) R.dv
  obtain ⟨q0, p1, lo, hi, dv⟩ := R
  have e1 : (nxt d root (P, Q)).1 = (P + root) / Q * Q - P := by
    unfold nxt
    show partI P Q root * Q - P = _
    rw [partI_pos q0]
  generalize (nxt d root (P, Q)).1 = P' at ex e1 ⊢
  generalize (nxt d root (P, Q)).2 = Q' at ex ⊢
  have a1 : (P + root) / Q * Q ≤ P + root := Int.ediv_mul_le _ (by omega)
  have a2 : P + root < (P + root) / Q * Q + Q := by
    have z := Int.lt_ediv_add_one_mul_self (P + root) q0
    rw [Int.add_mul, Int.one_mul] at z
    exact z
  have a3 : 1 ≤ (P + root) / Q := by
    have z : 1 * Q ≤ P + root := by omega
    exact (Int.le_ediv_iff_mul_le q0).mpr z
  have a4 : 1 * Q ≤ (P + root) / Q * Q := Int.mul_le_mul_of_nonneg_right a3 (by omega)
  generalize (P + root) / Q * Q = aQ at a1 a2 a4 e1
  have b1 : P' ≤ root := by omega
  have b2 : root - Q < P' := by omega
  have b3 : -root < P' := by omega
  have b4 : Q ≤ root + P' := by omega
  have c1 : P' * P' ≤ root * root := by
    have z : 0 ≤ (root - P') * (root + P') := Int.mul_nonneg (by omega) (by omega)
    have z2 : (root - P') * (root + P') = root * root - P' * P' := by grind
    omega
  have c2 : 0 < Q' * Q := by omega
  have c3 : 0 < Q' := by
    by_cases z : 0 < Q'
    · exact z
    · have z2 : Q' * Q ≤ 0 * Q := Int.mul_le_mul_of_nonneg_right (by omega) (by omega)
      omega
  refine ⟨c3, b1, ?_, ?_, ?_⟩
  · by_cases z : root - P' < Q'
    · exact z
    · have z2 : Q' * Q ≤ (root - P') * (root + P') := Int.mul_le_mul (by omega) b4 (by omega) (by omega)
      have z3 : (root - P') * (root + P') = root * root - P' * P' := by grind
      omega
  · by_cases z : Q' ≤ root + P'
    · exact z
    · have z2 : (root + P' + 1) * (root - P' + 1) ≤ Q' * Q := Int.mul_le_mul (by omega) (by omega) (by omega) (by omega)
      have z3 : (root + P' + 1) * (root - P' + 1) = (root + 1) * (root + 1) - P' * P' := by grind
      omega
  · exact ⟨Q, by omega⟩
theorem Red.back {d root P Q P2 Q2 : Int} (R : Red d root P Q) (S : Red d root P2 Q2) (r0 : 0 ≤ root) (h1 : root * root < d) (h2 : d < (root + 1) * (root + 1)) (e : nxt d root (P, Q) = nxt d root (P2, Q2)) : P = P2 ∧ Q = Q2 := by
  have ex := nxt_exact (root := root) (Int.ne_of_gt R.q0) R.dv
  have ex2 := nxt_exact (root := root) (Int.ne_of_gt S.q0) S.dv
  have N := R.step r0 h1 h2
  have e1 : (nxt d root (P, Q)).1 = partI P Q root * Q - P := rfl
  have e2 : (nxt d root (P2, Q2)).1 = partI P2 Q2 root * Q2 - P2 := rfl
  rw [← e] at ex2 e2
  have n0 := N.q0
  generalize (nxt d root (P, Q)).1 = P' at ex ex2 e1 e2
  generalize (nxt d root (P, Q)).2 = Q' at ex ex2 n0
  have eq : Q = Q2 := Int.eq_of_mul_eq_mul_left (Int.ne_of_gt n0) (ex.trans ex2.symm)
  subst eq
  refine ⟨?_, rfl⟩
  have l1 := R.lo
  have l2 := S.lo
  have u1 := R.p1
  have u2 := S.p1
  have q0 := R.q0
  generalize partI P Q root = a at e1
  generalize partI P2 Q root = b at e2
  have e3 : (a - b) * Q = P - P2 := by
    rw [Int.sub_mul]
    omega
  by_cases z : a - b ≤ -1
  · have z2 : (a - b) * Q ≤ -1 * Q := Int.mul_le_mul_of_nonneg_right z (by omega)
    omega
  · by_cases z' : 1 ≤ a - b
    · have z2 : 1 * Q ≤ (a - b) * Q := Int.mul_le_mul_of_nonneg_right z' (by omega)
      omega
    · have z2 : a - b = 0 := by omega
      rw [z2, Int.zero_mul] at e3
      omega
/-! ### the root of d: from (0, 1) -/
section
variable {d root : Int}
theorem cf_one (hq : True) : cf d root (0, 1) 1 = (root, d - root * root) := by
  show nxt d root (0, 1) = _
  unfold nxt
  show (partI 0 1 root * 1 - 0, (d - (partI 0 1 root * 1 - 0) * (partI 0 1 root * 1 - 0)).fdiv 1) = _
  have e : partI 0 1 root * 1 - 0 = root := by
    rw [partI_pos (by decide)]
    simp
  rw [e, Int.fdiv_one]
theorem cf_red (r0 : 0 ≤ root) (h1 : root * root < d) (h2 : d < (root + 1) * (root + 1)) : ∀ k, Red d root (cf d root (0, 1) (k + 1)).1 (cf d root (0, 1) (k + 1)).2
  | 0 => by
    rw [cf_one trivial]
    have e : (root + 1) * (root + 1) = root * root + 2 * root + 1 := by grind
    exact ⟨by show 0 < d - root * root; omega, by show root ≤ root; omega, by show root - root < d - root * root; omega, by show d - root * root ≤ root + root; omega, ⟨1, by show d - root * root = (d - root * root) * 1; omega⟩⟩
  | k + 1 => (cf_red r0 h1 h2 k).step r0 h1 h2
theorem cf_exact (r0 : 0 ≤ root) (h1 : root * root < d) (h2 : d < (root + 1) * (root + 1)) : ∀ k, (cf d root (0, 1) (k + 1)).2 * (cf d root (0, 1) k).2 = d - (cf d root (0, 1) (k + 1)).1 * (cf d root (0, 1) (k + 1)).1
  | 0 => by
    rw [cf_one trivial]
    show (d - root * root) * 1 = d - root * root
    omega
  | k + 1 => by
    have R := cf_red r0 h1 h2 k
    exact nxt_exact (P := (cf d root (0, 1) (k + 1)).1) (Q := (cf d root (0, 1) (k + 1)).2) (Int.ne_of_gt R.q0) R.dv
theorem cf_again (l : Nat) (h : (cf d root (0, 1) l).2 = 1) : cf d root (0, 1) (l + 1) = cf d root (0, 1) 1 := by
  rw [cf_one trivial]
  show nxt d root (cf d root (0, 1) l) = _
  unfold nxt
  rw [h]
  generalize (cf d root (0, 1) l).1 = P
  have e : partI P 1 root * 1 - P = root := by
    rw [partI_pos (by decide)]
    simp
    omega
  rw [e, Int.fdiv_one]
theorem cf_shift (l : Nat) (h : (cf d root (0, 1) l).2 = 1) : ∀ k, cf d root (0, 1) (l + (k + 1)) = cf d root (0, 1) (k + 1)
  | 0 => cf_again l h
  | k + 1 => by
    show nxt d root (cf d root (0, 1) (l + (k + 1))) = nxt d root (cf d root (0, 1) (k + 1))
    rw [cf_shift l h k]
theorem cf_unlike (r0 : 0 ≤ root) (h1 : root * root < d) (h2 : d < (root + 1) * (root + 1)) {l : Nat} (hm : ∀ k, 1 ≤ k → k < l → (cf d root (0, 1) k).2 ≠ 1) : ∀ j i, j < i → i ≤ l → cf d root (0, 1) j ≠ cf d root (0, 1) i
  | 0, i, hij, hl, e => by
    obtain ⟨k, rfl⟩ : ∃ k, i = k + 1 := ⟨i - 1, by omega⟩
    have R := cf_red r0 h1 h2 k
    rw [← e] at R
    have a := R.lo
    have b := R.hi
    have a2 : root - 0 < 1 := a
    have b2 : (1 : Int) ≤ root + 0 := b
    omega
  | 1, i, hij, hl, e => by
    obtain ⟨k, rfl⟩ : ∃ k, i = k + 2 := ⟨i - 2, by omega⟩
    have x := cf_exact r0 h1 h2 (k + 1)
    have R := cf_red r0 h1 h2 (k + 1)
    have x2 : (cf d root (0, 1) (k + 2)).2 * (cf d root (0, 1) (k + 1)).2 = d - (cf d root (0, 1) (k + 2)).1 * (cf d root (0, 1) (k + 2)).1 := x
    rw [← e, cf_one trivial] at x2
    have x3 : (d - root * root) * (cf d root (0, 1) (k + 1)).2 = (d - root * root) * 1 := by
      have y : (d - root * root) * (cf d root (0, 1) (k + 1)).2 = d - root * root := x2
      omega
    exact hm (k + 1) (by omega) (by omega) (Int.eq_of_mul_eq_mul_left (by omega) x3)
  | j + 2, i, hij, hl, e => by
    obtain ⟨k, rfl⟩ : ∃ k, i = k + 2 := ⟨i - 2, by omega⟩
    have b := (cf_red r0 h1 h2 j).back (cf_red r0 h1 h2 k) r0 h1 h2 e
    exact cf_unlike r0 h1 h2 hm (j + 1) (k + 1) (by omega) (by omega) (Prod.ext b.1 b.2)
end
/-! ### convergents -/
def cstep (s : (Int × Int) × (Int × Int)) (a : Int) : (Int × Int) × (Int × Int) := (s.2, (a * s.2.1 + s.1.1, a * s.2.2 + s.1.2))
def cst (ns : List Int) : (Int × Int) × (Int × Int) := ns.foldl cstep ((0, 1), (1, 0))
def cvl (ns : List Int) : List (Int × Int) := (List.range ns.length).map fun i => (cst (ns.take (i + 1))).2
theorem cst_take {ns : List Int} {i : Nat} {x : Int} (h : ns[i]? = some x) : cst (ns.take (i + 1)) = cstep (cst (ns.take i)) x := by
  unfold cst
  rw [List.take_add_one, h, List.foldl_append]
  rfl
theorem cvl_take {ns : List Int} {i : Nat} (h : i < ns.length) : cvl (ns.take (i + 1)) = cvl (ns.take i) ++ [(cst (ns.take (i + 1))).2] := by
  unfold cvl
  have e1 : (ns.take (i + 1)).length = i + 1 := by rw [List.length_take]; omega
  have e2 : (ns.take i).length = i := by rw [List.length_take]; omega
  rw [e1, e2, List.range_succ, List.map_append]
  congr 1
  · refine List.map_congr_left fun k hk => ?_
    have hk' : k < i := List.mem_range.mp hk
    rw [List.take_take, List.take_take, Nat.min_eq_left (by omega), Nat.min_eq_left (by omega)]
  · show [(cst ((ns.take (i + 1)).take (i + 1))).2] = _
    rw [List.take_take, Nat.min_self]
inductive Prs (H : Hp) : List Addr → List (Int × Int) → Prop
  | nil : Prs H [] []
  | cons {a : Addr} {p : Int × Int} {as : List Addr} {ps : List (Int × Int)} : H a = some (.tup [.int p.1, .int p.2]) → Prs H as ps → Prs H (a :: as) (p :: ps)
theorem Prs.same {H H' : Hp} {as : List Addr} {ps : List (Int × Int)} (h : Prs H as ps) (s : Same H H') : Prs H' as ps := by
  induction h with
  | nil => exact .nil
  | cons e _ ih => exact .cons (s _ _ e) ih
theorem Prs.mono {H H' : Hp} {as : List Addr} {ps : List (Int × Int)} (h : Prs H as ps) (s : ∀ b xs, H b = some (.tup xs) → H' b = some (.tup xs)) : Prs H' as ps := by
  induction h with
  | nil => exact .nil
  | cons e _ ih => exact .cons (s _ _ e) ih
theorem Prs.snoc {H : Hp} {as : List Addr} {ps : List (Int × Int)} {a : Addr} {p : Int × Int} (h : Prs H as ps) (e : H a = some (.tup [.int p.1, .int p.2])) : Prs H (as ++ [a]) (ps ++ [p]) := by
  induction h with
  | nil => exact .cons e .nil
  | cons e' _ ih => exact .cons e' ih
theorem Prs.len {H : Hp} {as : List Addr} {ps : List (Int × Int)} (h : Prs H as ps) : as.length = ps.length := by
  induction h with
  | nil => rfl
  | cons _ _ ih => rw [List.length_cons, List.length_cons, ih]
def pdI (p : Int × Int) : PyData := .tuple [.int p.1, .int p.2]
theorem Prs.dp {K : PySem.W.Frag} {H : Hp} {as : List Addr} {ps : List (Int × Int)} (h : Prs H as ps) : DpAll K H (as.map V.ref) (ps.map pdI) := by
  induction h with
  | nil => exact .nil
  | cons e _ ih => exact .cons (.tup (SqT.of e) (.cons (.int _) (.cons (.int _) .nil))) ih
theorem lay_prs : ∀ ps : List (Int × Int), PyData.canLayAll0 (ps.map pdI) = true
  | [] => rfl
  | p :: ps => by
    rw [List.map_cons, PyData.canLayAll0, lay_prs ps]
    rfl
theorem depth_prs : ∀ ps : List (Int × Int), PyData.depthAll (ps.map pdI) ≤ 1
  | [] => Nat.zero_le _
  | p :: ps => by
    rw [List.map_cons, PyData.depthAll]
    have h := depth_prs ps
    have e : (pdI p).depth = 1 := by
      unfold pdI
      rw [PyData.depth]
      rfl
    omega
theorem shaped_prs (ps : List (Int × Int)) : SeqAt.shaped (.list (ps.map pdI)) = true := by
  show (PyData.canLay0 (.list (ps.map pdI)) && decide (PyData.depth (.list (ps.map pdI)) ≤ 64)) = true
  rw [Bool.and_eq_true]
  refine ⟨by rw [PyData.canLay0]; exact lay_prs ps, decide_eq_true ?_⟩
  rw [PyData.depth]
  have h := depth_prs ps
  omega
theorem Prs.at {H : Hp} {as : List Addr} {ps : List (Int × Int)} (h : Prs H as ps) : ∀ {i : Nat} {p : Int × Int}, ps[i]? = some p → ∃ a, as[i]? = some a ∧ H a = some (.tup [.int p.1, .int p.2]) := by
  induction h with
  | nil => intro i p e; simp at e
  | @cons a q as ps e _ ih =>
    intro i p e2
    cases i with
    | zero =>
      have e3 : q = p := Option.some.inj e2
      subst e3
      exact ⟨a, rfl, e⟩
    | succ i => exact ih e2
theorem at_end {α : Type} {xs : List α} {v : α} (h : xs[xs.length - 1]? = some v) : atI xs (-1) = some v := by
  have hl : 0 < xs.length := by
    cases xs with
    | nil => cases h
    | cons x r => exact Nat.succ_pos _
  have e : ixN xs.length (-1) = some (xs.length - 1) := by
    unfold ixN
    rw [if_neg (by decide), if_pos (by omega)]
    congr 1
    omega
  unfold atI
  rw [e]
  exact h
/-! ### pell -/
def aL (d : Int) (k : Nat) : List Int := (List.range k).map (cfa d (0, 1))
theorem aL_succ (d : Int) (k : Nat) : aL d (k + 1) = aL d k ++ [cfa d (0, 1) k] := by
  unfold aL
  rw [List.range_succ, List.map_append]
  rfl
theorem aL_len (d : Int) (k : Nat) : (aL d k).length = k := by
  unfold aL
  rw [List.length_map, List.length_range]
theorem aL_at {d : Int} {k i : Nat} (h : i < k) : (aL d k)[i]? = some (cfa d (0, 1) i) := by
  unfold aL
  rw [List.getElem?_map, List.getElem?_range h]
  rfl
theorem cst_aL (d : Int) (k : Nat) : cst (aL d (k + 1)) = cstep (cst (aL d k)) (cfa d (0, 1) k) := by
  unfold cst
  rw [aL_succ, List.foldl_append]
  rfl
def sg (k : Nat) : Int := if k % 2 = 0 then 1 else -1
theorem sg_succ (k : Nat) : sg (k + 1) = -sg k := by
  unfold sg
  by_cases h : k % 2 = 0
  · rw [if_pos h, if_neg (by omega)]
  · rw [if_neg h, if_pos (by omega)]
    rfl
theorem nrm_q (Q1 Q2 P P2 d a R : Int) (h0 : Q1 ≠ 0) (hR : R*Q1 = d - P*P) (hQ2 : Q2*Q1 = d - P2*P2) (hP : P2 = a*Q1 - P) : Q2 = R + a*(P - P2) := by
  have z : (Q2 - (R + a*(P-P2)))*Q1 = 0 := by grind
  rcases Int.mul_eq_zero.mp z with h | h
  · omega
  · exact absurd h h0
theorem nrm_step (a p q e d P P2 Q1 Q2 R p0 q0 : Int) (h0 : Q1 ≠ 0) (h1 : p*p - d*(q*q) = e*Q1) (h2 : p*p0 - d*(q*q0) = -(e*P)) (h3 : p0*p0 - d*(q0*q0) = -(e*R)) (hP : P2 = a*Q1 - P) (hR : R*Q1 = d - P*P) (hQ2 : Q2*Q1 = d - P2*P2) :
    (a*p+p0)*(a*p+p0) - d*((a*q+q0)*(a*q+q0)) = -(e*Q2) ∧ (a*p+p0)*p - d*((a*q+q0)*q) = e*P2 := by
  have hQ : Q2 = R + a*(P - P2) := nrm_q Q1 Q2 P P2 d a R h0 hR hQ2 hP
  clear hQ2 hR h0
  constructor <;> grind
/-- d lies between two squares, and the walk of its root comes to the denominator 1 at l first -/
structure PellOk (d : Int) (l : Nat) : Prop where
  d0 : 0 < d
  d1 : d < 10001
  ns : rootI d * rootI d ≠ d
  l0 : 1 ≤ l
  l1 : l ≤ 40000
  one : (cf d (rootI d) (0, 1) l).2 = 1
  least : ∀ k, 1 ≤ k → k < l → (cf d (rootI d) (0, 1) k).2 ≠ 1
section
variable {d : Int} {l : Nat}
theorem PellOk.sq (h : PellOk d l) : 0 ≤ rootI d ∧ rootI d * rootI d < d ∧ d < (rootI d + 1) * (rootI d + 1) ∧ rootI d ≤ 100 := by
  have h0 := h.d0
  have h1 := h.d1
  have h2 := h.ns
  obtain ⟨a, b, c⟩ := rootI_spec (n := d) (by omega)
  refine ⟨a, by omega, c, ?_⟩
  by_cases z : rootI d ≤ 100
  · exact z
  · have e : 101 * 101 ≤ rootI d * rootI d := Int.mul_le_mul (by omega) (by omega) (by omega) (by omega)
    omega
theorem PellOk.red (h : PellOk d l) (k : Nat) : Red d (rootI d) (cf d (rootI d) (0, 1) (k + 1)).1 (cf d (rootI d) (0, 1) (k + 1)).2 := by
  obtain ⟨a, b, c, e⟩ := h.sq
  exact cf_red a b c k
theorem PellOk.size (h : PellOk d l) (k : Nat) : 0 ≤ (cf d (rootI d) (0, 1) k).1 ∧ (cf d (rootI d) (0, 1) k).1 ≤ 100 ∧ 0 < (cf d (rootI d) (0, 1) k).2 ∧ (cf d (rootI d) (0, 1) k).2 ≤ 200 := by
  obtain ⟨a, b, c, e⟩ := h.sq
  cases k with
  | zero => exact ⟨by show (0 : Int) ≤ 0; omega, by show (0 : Int) ≤ 100; omega, by show (0 : Int) < 1; omega, by show (1 : Int) ≤ 200; omega⟩
  | succ k =>
    have R := h.red k
    have r1 := R.q0
    have r2 := R.p1
    have r3 := R.lo
    have r4 := R.hi
    omega
theorem PellOk.part (h : PellOk d l) (k : Nat) : 0 ≤ cfa d (0, 1) k ∧ cfa d (0, 1) k ≤ 200 := by
  obtain ⟨a, b, c, e⟩ := h.sq
  obtain ⟨s1, s2, s3, s4⟩ := h.size k
  unfold cfa
  rw [partI_pos s3]
  have z := Int.ediv_le_self (a := (cf d (rootI d) (0, 1) k).1 + rootI d) (cf d (rootI d) (0, 1) k).2 (by omega)
  exact ⟨Int.ediv_nonneg (by omega) (by omega), by omega⟩
theorem PellOk.ex (h : PellOk d l) : ExOk 0 1 d (l + 1) 1 := by
  obtain ⟨a, b, c, e⟩ := h.sq
  have h0 := h.d0
  have h1 := h.d1
  have hl := h.l0
  have hl1 := h.l1
  refine ⟨by omega, by show d < 1152921504606846976; omega, h.ns, by decide, ?_, by omega, by omega, cf_again l h.one, fun i j hij hj => cf_unlike a b c h.least i j hij (by omega), fun i _ => ?_⟩
  · exact Int.fmod_one _
  · obtain ⟨s1, s2, s3, s4⟩ := h.size i
    exact ⟨by show _ < 1152921504606846976; omega, by show _ < 1152921504606846976; omega, by omega⟩
theorem PellOk.period (h : PellOk d l) : ∀ k, cf d (rootI d) (0, 1) (k + 1) = cf d (rootI d) (0, 1) (k % l + 1) := by
  intro k
  have hl := h.l0
  induction k using Nat.strongRecOn with
  | _ k ih =>
    by_cases hk : k < l
    · rw [Nat.mod_eq_of_lt hk]
    · have e := cf_shift l h.one (k - l)
      have e2 : l + (k - l + 1) = k + 1 := by omega
      rw [e2] at e
      rw [e, ih (k - l) (by omega)]
      have e3 : k % l = (k - l) % l := Nat.mod_eq_sub_mod (by omega)
      rw [e3]
theorem PellOk.nrm (h : PellOk d l) : ∀ k, (cst (aL d k)).2.1 * (cst (aL d k)).2.1 - d * ((cst (aL d k)).2.2 * (cst (aL d k)).2.2) = sg k * (cf d (rootI d) (0, 1) k).2 ∧ (cst (aL d k)).2.1 * (cst (aL d k)).1.1 - d * ((cst (aL d k)).2.2 * (cst (aL d k)).1.2) = -(sg k * (cf d (rootI d) (0, 1) k).1) ∧
    ∃ R, (cst (aL d k)).1.1 * (cst (aL d k)).1.1 - d * ((cst (aL d k)).1.2 * (cst (aL d k)).1.2) = -(sg k * R) ∧ R * (cf d (rootI d) (0, 1) k).2 = d - (cf d (rootI d) (0, 1) k).1 * (cf d (rootI d) (0, 1) k).1
  | 0 => ⟨by show (1 : Int) * 1 - d * (0 * 0) = 1 * 1; omega, by show (1 : Int) * 0 - d * (0 * 1) = -(1 * 0); omega, d, by show (0 : Int) * 0 - d * (1 * 1) = -(1 * d); omega, by show d * 1 = d - 0 * 0; omega⟩
  | k + 1 => by
    obtain ⟨h1, h2, R, h3, h4⟩ := h.nrm k
    obtain ⟨a, b, c, e⟩ := h.sq
    have x := cf_exact a b c k
    obtain ⟨s1, s2, s3, s4⟩ := h.size k
    have hP : (cf d (rootI d) (0, 1) (k + 1)).1 = cfa d (0, 1) k * (cf d (rootI d) (0, 1) k).2 - (cf d (rootI d) (0, 1) k).1 := rfl
    obtain ⟨n1, n2⟩ := nrm_step _ _ _ _ _ _ _ _ _ _ _ _ (by omega) h1 h2 h3 hP h4 x
    rw [cst_aL, sg_succ]
    refine ⟨?_, ?_, (cf d (rootI d) (0, 1) k).2, ?_, ?_⟩
    · rw [Int.neg_mul]
      exact n1
    · rw [Int.neg_mul, Int.neg_neg]
      exact n2
    · rw [Int.neg_mul, Int.neg_neg]
      exact h1
    · rw [Int.mul_comm]
      exact x
theorem PellOk.wide (h : PellOk d l) : ∀ k, (cst (aL d k)).1.1.natAbs ≤ 2 ^ (8 * k) ∧ (cst (aL d k)).1.2.natAbs ≤ 2 ^ (8 * k) ∧ (cst (aL d k)).2.1.natAbs ≤ 2 ^ (8 * k) ∧ (cst (aL d k)).2.2.natAbs ≤ 2 ^ (8 * k)
  | 0 => by
    show Int.natAbs 0 ≤ 1 ∧ Int.natAbs 1 ≤ 1 ∧ Int.natAbs 1 ≤ 1 ∧ Int.natAbs 0 ≤ 1
    decide
  | k + 1 => by
    obtain ⟨h1, h2, h3, h4⟩ := h.wide k
    obtain ⟨a0, a1⟩ := h.part k
    rw [cst_aL]
    have e : (2 : Nat) ^ (8 * (k + 1)) = 2 ^ (8 * k) * 256 := by
      rw [Nat.mul_add, Nat.pow_add]
    rw [e]
    have st : ∀ x y : Int, x.natAbs ≤ 2 ^ (8 * k) → y.natAbs ≤ 2 ^ (8 * k) → (cfa d (0, 1) k * x + y).natAbs ≤ 2 ^ (8 * k) * 256 := by
      intro x y hx hy
      have z1 : (cfa d (0, 1) k * x).natAbs = (cfa d (0, 1) k).natAbs * x.natAbs := Int.natAbs_mul _ _
      have z2 : (cfa d (0, 1) k).natAbs * x.natAbs ≤ 200 * 2 ^ (8 * k) := Nat.mul_le_mul (by omega) hx
      generalize (2 : Nat) ^ (8 * k) = B at hx hy z2 ⊢
      omega
    exact ⟨by show (cst (aL d k)).2.1.natAbs ≤ _; omega, by show (cst (aL d k)).2.2.natAbs ≤ _; omega, st _ _ h3 h1, st _ _ h4 h2⟩
/-- how many parts pell takes -/
def pellN (l : Nat) : Nat := if l % 2 = 1 then 2 * l else l
theorem PellOk.hit (h : PellOk d l) {k : Nat} (hk : k < pellN l) : (cst (aL d (k + 1))).2.1 * (cst (aL d (k + 1))).2.1 - d * ((cst (aL d (k + 1))).2.2 * (cst (aL d (k + 1))).2.2) = 1 ↔ k + 1 = pellN l := by
  rw [(h.nrm (k + 1)).1]
  obtain ⟨s1, s2, s3, s4⟩ := h.size (k + 1)
  have hl := h.l0
  have per := h.period k
  have q1 : (cf d (rootI d) (0, 1) (k + 1)).2 = 1 ↔ (k + 1) % l = 0 := by
    by_cases z : k % l + 1 < l
    · have lm := h.least (k % l + 1) (by omega) z
      rw [← per] at lm
      have e : (k + 1) % l = k % l + 1 := by
        rw [Nat.add_mod, Nat.mod_eq_of_lt (show 1 < l by omega), Nat.mod_eq_of_lt z]
      exact ⟨fun y => absurd y lm, fun y => by omega⟩
    · have zl := Nat.mod_lt k (show 0 < l by omega)
      have e2 : k % l + 1 = l := by omega
      have e : (k + 1) % l = 0 := by
        have e3 := Nat.div_add_mod k l
        have e4 : k + 1 = l * (k / l + 1) := by
          rw [Nat.mul_add]
          omega
        rw [e4]
        exact Nat.mul_mod_right _ _
      rw [per, e2]
      exact ⟨fun _ => e, fun _ => h.one⟩
  have sgn : ∀ n, sg n = 1 ∨ sg n = -1 := fun n => by
    unfold sg
    split
    · exact .inl rfl
    · exact .inr rfl
  have s5 : sg (k + 1) * (cf d (rootI d) (0, 1) (k + 1)).2 = 1 ↔ (k + 1) % 2 = 0 ∧ (k + 1) % l = 0 := by
    rw [← q1]
    unfold sg
    by_cases z : (k + 1) % 2 = 0
    · rw [if_pos z]
      exact ⟨fun y => ⟨z, by omega⟩, fun y => by omega⟩
    · rw [if_neg z]
      exact ⟨fun y => by omega, fun y => absurd y.1 z⟩
  rw [s5]
  unfold pellN at hk ⊢
  by_cases odd : l % 2 = 1
  · rw [if_pos odd] at hk ⊢
    constructor
    · rintro ⟨y1, y2⟩
      obtain ⟨c, hc⟩ := Nat.dvd_of_mod_eq_zero y2
      have c1 : c ≠ 1 := fun z => by
        rw [z] at hc
        omega
      have c2 : c ≠ 0 := fun z => by
        rw [z] at hc
        omega
      have c3 : l * 2 ≤ l * c := Nat.mul_le_mul_left _ (by omega)
      omega
    · intro y
      rw [y]
      exact ⟨by omega, Nat.mod_eq_zero_of_dvd ⟨2, by omega⟩⟩
  · rw [if_neg odd] at hk ⊢
    constructor
    · rintro ⟨y1, y2⟩
      obtain ⟨c, hc⟩ := Nat.dvd_of_mod_eq_zero y2
      have c2 : c ≠ 0 := fun z => by
        rw [z] at hc
        omega
      have c3 : l * 1 ≤ l * c := Nat.mul_le_mul_left _ (by omega)
      omega
    · intro y
      rw [y]
      exact ⟨by omega, Nat.mod_self l⟩
end

/-! ### Nat -/
section
variable {X : Cx}
theorem modNN : OpR X (binaryOp .Mod) (fun x y H Q => ∃ n m : Nat, x = .int (n : Int) ∧ y = .int (m : Int) ∧ 0 < m ∧ Q (.int ((n % m : Nat) : Int)) H) := by
  intro pins s σ H x y v u Q I rx ry h
  obtain ⟨n, m, rfl, rfl, c, q⟩ := h
  rw [Int.natCast_emod] at q
  exact op_mod pins s σ H _ _ v u Q I rx ry ⟨_, _, rfl, rfl, by show (0 : Int) < (m : Int); omega, q⟩
theorem mulNN : OpR X (binaryOp .Mult) (fun x y H Q => ∃ n m : Nat, x = .int (n : Int) ∧ y = .int (m : Int) ∧ (n < 2 ^ 64 ∨ m < 2 ^ 64) ∧ Q (.int ((n * m : Nat) : Int)) H) := by
  intro pins s σ H x y v u Q I rx ry h
  obtain ⟨n, m, rfl, rfl, c, q⟩ := h
  rw [Int.natCast_mul] at q
  refine op_mul pins s σ H _ _ v u Q I rx ry ⟨_, _, rfl, rfl, ?_, q⟩
  rcases c with c | c
  · have c' : n < 18446744073709551616 := c
    exact .inl ⟨by omega, by show (n : Int) < 18446744073709551616; omega⟩
  · have c' : m < 18446744073709551616 := c
    exact .inr ⟨by omega, by show (m : Int) < 18446744073709551616; omega⟩
theorem divNN : OpR X (binaryOp .FloorDiv) (fun x y H Q => ∃ n m : Nat, x = .int (n : Int) ∧ y = .int (m : Int) ∧ (0 < m ∧ m < 2 ^ 9000) ∧ Q (.int ((n / m : Nat) : Int)) H) := by
  intro pins s σ H x y v u Q I rx ry h
  obtain ⟨n, m, rfl, rfl, ⟨c1, c2⟩, q⟩ := h
  rw [Int.natCast_ediv] at q
  refine op_fdivW pins s σ H _ _ v u Q I rx ry ⟨_, _, rfl, rfl, ⟨by omega, ?_⟩, q⟩
  rw [Int.natAbs_natCast]
  exact PySem.Flt.log2_lt_of (by decide) c2
end
theorem div9 {m : Nat} (h0 : 0 < m) (h : m < 2 ^ 64) : 0 < m ∧ m < 2 ^ 9000 := ⟨h0, pow_up h (by decide)⟩
theorem powI (b n : Nat) : ((b : Int) ^ n) = ((b ^ n : Nat) : Int) := (Int.natCast_pow b n).symm
/-! ### mirrors -/
def pmL (m : Nat) : Nat → Nat → Nat → Nat → Nat
  | 0, r, _, _ => r
  | f + 1, r, s, k => bif k.beq 0 then r else pmL m f (bif (k % 2).beq 1 then r * s % m else r) (s * s % m) (k / 2)
/-- b ^ e % m, by halving -/
def pmod (b e m : Nat) : Nat := pmL m 64 1 (b % m) e
def toL (p : Nat) : Nat → Nat → Nat → Nat × Nat
  | 0, n, k => (k, n)
  | f + 1, n, k => bif (n % p).beq 0 then toL p f (n / p) (k + 1) else (k, n)
def takenOut (n p : Nat) : Nat × Nat := toL p 64 n 0
def behL (n : Nat) : Nat → Nat → Bool
  | 0, _ => false
  | k + 1, x => bif x.beq (n - 1) then true else behL n k (x * x % n)
def behaves (n base many odd : Nat) : Bool := bif (pmod base odd n).beq 1 then true else behL n many (pmod base odd n)
def wits : List Nat := [2, 3, 5, 7, 11, 13, 17, 19, 23, 29, 31, 37]
/-- n by the first of these that measures it: it is that one -/
def byW (n : Nat) : List Nat → Option Bool
  | [] => none
  | p :: r => bif (n % p).beq 0 then some (n.beq p) else byW n r
def isPrimeM (n : Nat) : Bool := bif n.ble 1 then false else match byW n wits with
  | some b => b
  | none => wits.all fun b => behaves n b (takenOut (n - 1) 2).1 (takenOut (n - 1) 2).2
def leastL (n : Nat) : Nat → Nat → Option Nat
  | 0, _ => none
  | f + 1, x => bif (n % x).beq 0 then some x else leastL n f (x + 2)
def leastM (n start : Nat) : Option Nat := bif (n % 2).beq 0 then some 2 else leastL n n (bif start.ble 3 then 3 else start)
/-- the prime parts, as the program finds them: none where its search would not end in this many steps -/
def ppL : Nat → Nat → Nat → Option (List (Nat × Nat))
  | 0, _, _ => none
  | f + 1, rest, p => bif rest.ble 1 then some [] else
    match (bif isPrimeM rest then some rest else leastM rest p) with
    | none => none
    | some q => match ppL f (takenOut rest q).2 q with
      | none => none
      | some l => some ((q, (takenOut rest q).1) :: l)
def ppM (n : Nat) : Option (List (Nat × Nat)) := ppL 70 n 2
theorem bifT {α : Type} {b : Bool} (h : b = true) (x y : α) : (bif b then x else y) = x := by rw [h]; rfl
theorem bifF {α : Type} {b : Bool} (h : b = false) (x y : α) : (bif b then x else y) = y := by rw [h]; rfl
theorem beqT {a b : Nat} (h : a = b) : a.beq b = true := by rw [h]; exact Nat.beq_refl b
theorem beqF {a b : Nat} (h : a ≠ b) : a.beq b = false := by
  cases e : a.beq b with
  | false => rfl
  | true => exact absurd (Nat.eq_of_beq_eq_true e) h
theorem bleT {a b : Nat} (h : a ≤ b) : a.ble b = true := Nat.ble_eq_true_of_le h
theorem bleF {a b : Nat} (h : ¬ a ≤ b) : a.ble b = false := by
  cases e : a.ble b with
  | false => rfl
  | true => exact absurd (Nat.le_of_ble_eq_true e) h
theorem toL_pos {p : Nat} (hp : 2 ≤ p) : ∀ {f n k : Nat}, 0 < n → 0 < (toL p f n k).2 ∧ (toL p f n k).2 ≤ n
  | 0, n, k, h => ⟨h, Nat.le_refl _⟩
  | f + 1, n, k, h => by
    unfold toL
    by_cases e : n % p = 0
    · rw [bifT (beqT e)]
      have h1 : p ≤ n := Nat.le_of_dvd h (Nat.dvd_of_mod_eq_zero e)
      have h2 : 0 < n / p := Nat.div_pos h1 (by omega)
      obtain ⟨a, b⟩ := toL_pos hp (f := f) (k := k + 1) h2
      exact ⟨a, Nat.le_trans b (Nat.div_le_self _ _)⟩
    · rw [bifF (beqF e)]
      exact ⟨h, Nat.le_refl _⟩
theorem pmL_lt {m : Nat} (h : 0 < m) : ∀ {f r s k : Nat}, r < m → pmL m f r s k < m
  | 0, r, s, k, hr => hr
  | f + 1, r, s, k, hr => by
    unfold pmL
    cases k.beq 0 with
    | true => exact hr
    | false =>
      refine pmL_lt h ?_
      cases (k % 2).beq 1 with
      | true => exact Nat.mod_lt _ h
      | false => exact hr
theorem pmod_lt {b e m : Nat} (h : 1 < m) : pmod b e m < m := pmL_lt (by omega) h
def nats (l : List (Nat × Nat)) : List (Int × Int) := l.map fun p => ((p.1 : Int), (p.2 : Int))

/-! ### residues: mirrors -/
def resM (u p : Nat) : Bool := (pmod u ((p - 1) / 2) p).beq 1
def lnrL (p : Nat) : Nat → Nat → Option Nat
  | 0, _ => none
  | f + 1, x => bif resM x p then lnrL p f (x + 1) else some x
def dblL (p : Nat) : Nat → Nat → Nat → Option Nat
  | 0, _, _ => none
  | f + 1, x, k => bif x.beq 1 then some k else dblL p f (x * x % p) (k + 1)
def sqN (p : Nat) : Nat → Nat → Nat
  | 0, t => t
  | k + 1, t => sqN p k (t * t % p)
def prL (p : Nat) : Nat → Nat → Nat → Nat → Nat → Option Nat
  | 0, _, _, _, _ => none
  | f + 1, root, rest, turn, many => bif rest.beq 1 then some root else
    match dblL p 100 rest 0 with
    | none => none
    | some order => prL p f (root * sqN p (many - order - 1) turn % p) (rest * (sqN p (many - order - 1) turn * sqN p (many - order - 1) turn % p) % p) (sqN p (many - order - 1) turn * sqN p (many - order - 1) turn % p) order
/-- Tonelli's and Shanks's walk: none where it would not end in this many steps -/
def prM (u p : Nat) : Option Nat :=
  match lnrL p 100 2 with
  | none => none
  | some z => prL p 100 (pmod u (((takenOut (p - 1) 2).2 + 1) / 2) p) (pmod u (takenOut (p - 1) 2).2 p) (pmod z (takenOut (p - 1) 2).2 p) (takenOut (p - 1) 2).1
theorem sqN_lt {p : Nat} (h : 0 < p) : ∀ {k t : Nat}, t < p → sqN p k t < p
  | 0, _, ht => ht
  | k + 1, t, _ => show sqN p k (t * t % p) < p from sqN_lt h (k := k) (Nat.mod_lt _ h)
theorem sqN_succ (p : Nat) : ∀ (k t : Nat), sqN p (k + 1) t = sqN p k t * sqN p k t % p
  | 0, _ => rfl
  | k + 1, t => by
    show sqN p (k + 1) (t * t % p) = _
    rw [sqN_succ p k (t * t % p)]
    rfl
theorem lnrL_lt {p : Nat} : ∀ {f x z : Nat}, lnrL p f x = some z → z < x + f
  | 0, _, _, h => by cases h
  | f + 1, x, z, h => by
    unfold lnrL at h
    cases e : resM x p with
    | true =>
      rw [e] at h
      have := lnrL_lt (show lnrL p f (x + 1) = some z from h)
      omega
    | false =>
      rw [e] at h
      have e2 : x = z := Option.some.inj h
      omega
/-! ### residues: what they are -/
def Pr (p : Nat) : Prop := 2 ≤ p ∧ ∀ a b : Int, (p : Int) ∣ a * b → (p : Int) ∣ a ∨ (p : Int) ∣ b
/-- all square roots of z modulo m, each once -/
def Rts (z : Int) (m : Nat) (L : List Int) : Prop := L.Nodup ∧ ∀ x, x ∈ L ↔ (0 ≤ x ∧ x < (m : Int) ∧ (m : Int) ∣ x * x - z)
/-! ### residues: theory -/
theorem Pr.not_one {p : Nat} (h : Pr p) : ¬ (p : Int) ∣ 1 := fun ⟨c, hc⟩ => by
  have h2 := h.1
  have h3 : (p : Int) * c ≤ 0 ∨ (2 : Int) ≤ (p : Int) * c := by
    by_cases z : c ≤ 0
    · have k : (p : Int) * c ≤ (p : Int) * 0 := Int.mul_le_mul_of_nonneg_left z (by omega)
      omega
    · have k : (p : Int) * 1 ≤ (p : Int) * c := Int.mul_le_mul_of_nonneg_left (by omega) (by omega)
      omega
  omega
/-- p ^ k measures a * b, p doesn't measure a -/
theorem Pr.pow_dvd {p : Nat} (h : Pr p) {a b : Int} (ha : ¬ (p : Int) ∣ a) : ∀ {k : Nat}, ((p ^ k : Nat) : Int) ∣ a * b → ((p ^ k : Nat) : Int) ∣ b
  | 0, _ => ⟨b, by rw [Nat.pow_zero]; omega⟩
  | k + 1, hd => by
    have e : ((p ^ (k + 1) : Nat) : Int) = ((p ^ k : Nat) : Int) * (p : Int) := by rw [Nat.pow_succ, Int.natCast_mul]
    have h1 : ((p ^ k : Nat) : Int) ∣ b := h.pow_dvd ha (Int.dvd_trans ⟨p, e⟩ hd)
    obtain ⟨c, hc⟩ := h1
    obtain ⟨m, hm⟩ := hd
    have pk : ((p ^ k : Nat) : Int) ≠ 0 := by
      have : 0 < p ^ k := Nat.pow_pos (by have := h.1; omega)
      omega
    have e2 : ((p ^ k : Nat) : Int) * (a * c) = ((p ^ k : Nat) : Int) * ((p : Int) * m) := by
      rw [hc, e] at hm
      generalize ((p ^ k : Nat) : Int) = P at hm ⊢
      grind
    have e3 : a * c = (p : Int) * m := Int.eq_of_mul_eq_mul_left pk e2
    rcases h.2 a c ⟨m, e3⟩ with z | ⟨c', hc'⟩
    · exact absurd z ha
    · refine ⟨c', ?_⟩
      rw [hc, hc', e, Int.mul_assoc]
/-- p ^ (2 * h) measures x * x -/
theorem Pr.sq_dvd {p : Nat} (h : Pr p) : ∀ {k : Nat} {x : Int}, ((p ^ (2 * k) : Nat) : Int) ∣ x * x → ((p ^ k : Nat) : Int) ∣ x
  | 0, x, _ => ⟨x, by rw [Nat.pow_zero]; omega⟩
  | k + 1, x, ⟨m, hm⟩ => by
    have e : ((p ^ (2 * (k + 1)) : Nat) : Int) = (p : Int) * (p : Int) * ((p ^ (2 * k) : Nat) : Int) := by
      rw [Nat.mul_add, Nat.pow_add, Int.natCast_mul]
      have e2 : ((p ^ (2 * 1) : Nat) : Int) = (p : Int) * (p : Int) := by
        rw [Nat.pow_succ, Nat.pow_one, Int.natCast_mul]
      rw [e2, Int.mul_comm]
    have p0 : (p : Int) ≠ 0 := by
      have := h.1
      omega
    have hp : (p : Int) ∣ x := by
      rcases h.2 x x ⟨(p : Int) * ((p ^ (2 * k) : Nat) : Int) * m, by rw [hm, e]; grind⟩ with z | z <;> exact z
    obtain ⟨y, rfl⟩ := hp
    have e3 : y * y = ((p ^ (2 * k) : Nat) : Int) * m := by
      have e4 : (p : Int) * ((p : Int) * (y * y)) = (p : Int) * ((p : Int) * (((p ^ (2 * k) : Nat) : Int) * m)) := by
        rw [e] at hm
        generalize ((p ^ (2 * k) : Nat) : Int) = P at hm ⊢
        grind
      exact Int.eq_of_mul_eq_mul_left p0 (Int.eq_of_mul_eq_mul_left p0 e4)
    obtain ⟨c, hc⟩ := h.sq_dvd (k := k) ⟨m, e3⟩
    refine ⟨c, ?_⟩
    rw [hc, Nat.pow_succ, Int.natCast_mul]
    generalize ((p ^ k : Nat) : Int) = P
    grind
/-- what is asked of an odd prime -/
structure PrimeOk (p : Nat) : Prop where
  pr : Pr p
  odd : p % 2 = 1
  euler : ∀ u, 0 < u → u < p → (resM u p = true ↔ ∃ x, x < p ∧ x * x % p = u)
  root : ∀ u, 0 < u → u < p → resM u p = true → ∃ r, prM u p = some r ∧ r < p ∧ r * r % p = u
theorem dvd_sub_mod {p : Nat} (hp : 0 < p) (z : Int) : (p : Int) ∣ z - ((z % (p : Int)).toNat : Int) := by
  have h0 := Int.emod_nonneg z (show (p : Int) ≠ 0 by omega)
  rw [Int.toNat_of_nonneg h0]
  exact ⟨z / (p : Int), by have := Int.mul_ediv_add_emod z (p : Int); omega⟩
/-- the step of Hensel's way -/
theorem lift_step {P p r u inv c k v : Int} (h1 : r * r - u = P * c) (h2 : inv * (2 * r) - 1 = p * k) (h3 : P = p * v) : ∃ m, (r - (r * r - u) * inv) * (r - (r * r - u) * inv) - u = P * p * m := by
  refine ⟨-(c * k) + v * c * c * inv * inv, ?_⟩
  have e : (r - (r * r - u) * inv) * (r - (r * r - u) * inv) - u = (r * r - u) - (r * r - u) * (inv * (2 * r)) + (r * r - u) * (r * r - u) * (inv * inv) := by grind
  rw [e, h1]
  have e2 : inv * (2 * r) = 1 + p * k := by omega
  rw [e2, h3]
  grind
/-- all roots of a number that p doesn't measure, from one -/
theorem unit_rts {p k : Nat} {u r : Int} (h : Pr p) (h2 : ¬ (p : Int) ∣ 2 * r) (hr : ((p ^ (k + 1) : Nat) : Int) ∣ r * r - u) (r0 : 0 ≤ r) (r1 : r < ((p ^ (k + 1) : Nat) : Int)) : Rts u (p ^ (k + 1)) [r, ((p ^ (k + 1) : Nat) : Int) - r] := by
  have pP : (p : Int) ∣ ((p ^ (k + 1) : Nat) : Int) := ⟨((p ^ k : Nat) : Int), by rw [Nat.pow_succ, Int.natCast_mul, Int.mul_comm]⟩
  have hrn : ¬ (p : Int) ∣ r := fun ⟨c, hc⟩ => h2 ⟨2 * c, by rw [hc]; grind⟩
  have rne : r ≠ 0 := fun e => hrn ⟨0, by omega⟩
  have pd : ∀ {k : Nat} {a b : Int}, ¬ (p : Int) ∣ a → ((p ^ k : Nat) : Int) ∣ a * b → ((p ^ k : Nat) : Int) ∣ b := fun ha hd => h.pow_dvd ha hd
  have pd1 := @pd (k + 1)
  unfold Rts
  generalize ((p ^ (k + 1) : Nat) : Int) = P at hr r1 pP pd1 ⊢
  have P0 : 0 < P := by omega
  refine ⟨?_, fun x => ⟨fun hx => ?_, fun ⟨x0, x1, hx⟩ => ?_⟩⟩
  · refine List.nodup_cons.mpr ⟨fun hm => ?_, List.nodup_cons.mpr ⟨List.not_mem_nil, List.nodup_nil⟩⟩
    have e := List.mem_singleton.mp hm
    obtain ⟨c, hc⟩ := pP
    exact h2 ⟨c, by omega⟩
  · rcases List.mem_cons.mp hx with e | hx
    · subst e
      exact ⟨r0, r1, hr⟩
    · rw [List.mem_singleton] at hx
      subst hx
      refine ⟨by omega, by omega, ?_⟩
      obtain ⟨c, hc⟩ := hr
      exact ⟨P - 2 * r + c, by grind⟩
  · have hd : P ∣ (x - r) * (x + r) := by
      obtain ⟨c, hc⟩ := hr
      obtain ⟨c', hc'⟩ := hx
      exact ⟨c' - c, by grind⟩
    by_cases z : (p : Int) ∣ x - r
    · have z2 : ¬ (p : Int) ∣ x + r := fun ⟨b, hb⟩ => by
        obtain ⟨a, ha⟩ := z
        exact h2 ⟨b - a, by rw [Int.mul_sub]; omega⟩
      have hd2 : P ∣ (x + r) * (x - r) := by rw [Int.mul_comm]; exact hd
      obtain ⟨c, hc⟩ := pd1 z2 hd2
      have c0 : c = 0 := by
        by_cases a : c ≤ -1
        · have := Int.mul_le_mul_of_nonneg_left a (show 0 ≤ P by omega)
          omega
        · by_cases b : 1 ≤ c
          · have := Int.mul_le_mul_of_nonneg_left b (show 0 ≤ P by omega)
            omega
          · omega
      rw [c0, Int.mul_zero] at hc
      rw [show x = r by omega]
      exact List.mem_cons_self
    · obtain ⟨c, hc⟩ := pd1 z hd
      have c0 : c = 1 := by
        by_cases a : c ≤ 0
        · have := Int.mul_le_mul_of_nonneg_left a (show 0 ≤ P by omega)
          omega
        · by_cases b : 2 ≤ c
          · have := Int.mul_le_mul_of_nonneg_left b (show 0 ≤ P by omega)
            omega
          · omega
      rw [c0, Int.mul_one] at hc
      rw [show x = P - r by omega]
      exact List.mem_cons_of_mem _ List.mem_cons_self
/-! ### loops over two fors -/
theorem out_list {K : PySem.W.Frag} {a : Addr} {xs : List V} {F : V → Hp → (Hp → Prop) → Prop} {H0 : Hp} {Qd : Hp → Prop} (Pv : Nat → Hp → Prop) (h0 : Pv 0 H0) (hl : ∀ i H, i ≤ xs.length → Pv i H → SqL K H a xs)
    (hs : ∀ i x H, xs[i]? = some x → Pv i H → F x H (Pv (i + 1))) (hd : ∀ H, Pv xs.length H → Qd H) :
    ∃ W : Nat → Nat → Hp → Prop, (∃ m, W 0 m H0) ∧ ∀ i m H, W i m H → ((Itl K a).stop i H ∧ Qd H) ∨ ((Itl K a).go i H ∧ ∃ Nx : Hp → Prop, (∀ H', Nx H' → ∃ m', m' < m ∧ W (i + 1) m' H') ∧ ∀ x H', (Itl K a).yld i H x H' → F x H' Nx) := by
  refine ⟨fun i m H => m = xs.length - i ∧ i ≤ xs.length ∧ Pv i H, ⟨xs.length, by simp, Nat.zero_le _, h0⟩, ?_⟩
  rintro i m H ⟨rfl, hi, p⟩
  have q := hl i H hi p
  by_cases hlt : i < xs.length
  · refine .inr ⟨⟨xs, xs[i], q, by simp [hlt]⟩, Pv (i + 1), fun H' p' => ⟨xs.length - (i + 1), by omega, rfl, hlt, p'⟩, fun x H' y => ?_⟩
    obtain ⟨e, y⟩ := y
    subst e
    exact hs i x _ (y xs q) p
  · have e : i = xs.length := by omega
    subst e
    exact .inl ⟨⟨xs, q, Nat.le_refl _⟩, hd H p⟩
theorem out_range {lo : Int} {n : Nat} {F : V → Hp → (Hp → Prop) → Prop} {H0 : Hp} {Qd : Hp → Prop} (Pv : Nat → Hp → Prop) (h0 : Pv 0 H0)
    (hs : ∀ i H, i < n → Pv i H → F (.int (lo + (i : Nat))) H (Pv (i + 1))) (hd : ∀ H, Pv n H → Qd H) :
    ∃ W : Nat → Nat → Hp → Prop, (∃ m, W 0 m H0) ∧ ∀ i m H, W i m H → ((Itr lo n).stop i H ∧ Qd H) ∨ ((Itr lo n).go i H ∧ ∃ Nx : Hp → Prop, (∀ H', Nx H' → ∃ m', m' < m ∧ W (i + 1) m' H') ∧ ∀ x H', (Itr lo n).yld i H x H' → F x H' Nx) := by
  refine ⟨fun i m H => m = n - i ∧ i ≤ n ∧ Pv i H, ⟨n, by simp, Nat.zero_le _, h0⟩, ?_⟩
  rintro i m H ⟨rfl, hi, p⟩
  by_cases hlt : i < n
  · refine .inr ⟨hlt, Pv (i + 1), fun H' p' => ⟨n - (i + 1), by omega, rfl, hlt, p'⟩, fun x H' y => ?_⟩
    obtain ⟨e, y⟩ := y
    subst e y
    exact hs i _ hlt p
  · have e : i = n := by omega
    subst e
    exact .inl ⟨Nat.le_refl _, hd H p⟩
/-! ### list(range(a, b, c)) -/
section
variable {X : Cx} {a b c : Expr} {ta tb tc : TE}
def tLstRg3 (ta tb tc : TE) : TE := fun σ H Q => ta σ H fun x H1 => tb σ H1 fun y H2 => tc σ H2 fun z H3 => ∃ (i j k : Int) (n : Nat), x = .int i ∧ y = .int j ∧ z = .int k ∧ RgC i j k n ∧ n ≤ 2 ^ 24 ∧ ∀ q, H3 q = none → Q (.ref q) (upd H3 q (.lst ((List.range n).map fun (t : Nat) => V.int (i + t * k))))
theorem pe_listRg3 {p p2 pos pos2 : Pos} (hc : X.calm = true) (hg : Gl X "list") (hm : X.mg "list" = none) (hg2 : Gl X "range") (hm2 : X.mg "range" = none) (ha : PE X a ta) (hb : PE X b tb) (hcc : PE X c tc)
    (na : starEach [.Call (.Name "range" p2) [a, b, c] [] pos2] X.env = (false, eval (.Call (.Name "range" p2) [a, b, c] [] pos2) X.env) :: starEach [] X.env := by rfl)
    (n1 : starEach [a, b, c] X.env = (false, eval a X.env) :: starEach [b, c] X.env := by rfl) (n2 : starEach [b, c] X.env = (false, eval b X.env) :: starEach [c] X.env := by rfl) (n3 : starEach [c] X.env = (false, eval c X.env) :: starEach [] X.env := by rfl)
    (hp1 : (backTo pos2 (starEach [b, c] X.env)).any (·.1) = false := by rfl) (hp2 : (backTo pos2 (starEach [c] X.env)).any (·.1) = false := by rfl) :
    PE X (.Call (.Name "list" p) [.Call (.Name "range" p2) [a, b, c] [] pos2] [] pos) (tLstRg3 ta tb tc) := by
  refine ⟨fun pins s σ H Q I h => ?_⟩
  refine Call_ (ld_blt I hg hm boot_list (PyProof.Rows.callWith_type1 (args_cons (thn (Q := fun x s' => ∃ r i j k t u v H3, x = .ref r ∧ IsRange s'.heap r i j k t u v ∧ Inv X pins σ H3 s' ∧ ∃ n, RgC i j k n ∧ n ≤ 2 ^ 24 ∧ ∀ q, H3 q = none → Q (.ref q) (upd H3 q (.lst ((List.range n).map fun (t : Nat) => V.int (i + t * k))))) ?_ fun x s1 ⟨r, i, j, k, t, u, v, H1, ex, hr, I1, n, ok, hn, q⟩ => args_nil ?_) na) na))
  · refine Call_ (ld_blt I hg2 hm2 boot_range (PyProof.Rows.callWith_type1 (args_cons (thn (ha.run pins s σ H _ I h) fun v1 s1 ⟨x, H1, I1, r1, q1⟩ => args_cons (thn (hb.run pins s1 σ H1 _ I1 q1) fun v2 s2 ⟨y, H2, I2, r2, q2⟩ => one_arg hcc I2 q2 (fun v3 s3 z H3 I3 r3 q => ?_) n3) n2) n1) n1 hp1))
    obtain ⟨i, j, k, n, rfl, rfl, rfl, ok, hn, q⟩ := q
    obtain ⟨t, rfl⟩ := r1
    obtain ⟨t', rfl⟩ := r2
    obtain ⟨t'', rfl⟩ := r3
    exact call_range_3 ok.1 ⟨_, i, j, k, _, _, _, H3, rfl, IsRange.new _ _ _ _ _ _ _, I3.kept fun b u e => Heap.get?_push_of_some _ e, n, ok, hn, q⟩ (.inl (PyProof.noPylong_small ok.2.1))
  · subst ex
    refine call_list_range (n := n) (I1.ok.hd hc) hr ok.2.2.1 ok.2.2.2 hn fun h' tk acc c' hk e' hi => ?_
    have hv : Vals ((List.range n).map fun (t : Nat) => V.int (i + t * k)) acc.toList := by
      have e : acc.toList.length = n := by rw [Array.length_toList]; exact hi.1
      rw [← e]
      refine vals_of_get acc.toList _ fun m w hm => ?_
      obtain ⟨t, rfl⟩ := hi.2 m w (by rw [← hm, Array.getElem?_toList])
      exact ⟨t, rfl⟩
    refine ⟨.ref s1.heap.objs.size, upd H1 s1.heap.objs.size (.lst ((List.range n).map fun (t : Nat) => V.int (i + t * k))), I1.laid hk (Nat.le_refl _) (show ObjOk X.prog X.w _ _ _ (.lst _) from ⟨?_, acc.toList, c', hv, ?_⟩), rfl, q _ (I1.hok.fresh (Nat.le_refl _))⟩
    · rw [List.length_map, List.length_range, sizeLine_eq]
      omega
    · rw [Array.toArray_toList]
      exact e'
end
theorem rg_mul {c n : Nat} (hc : 0 < c) (h1 : c < 1073741824) (h : c * n < 2 ^ 60) : RgC 0 ((c * n : Nat) : Int) (c : Int) n := by
  have h' : c * n < 1152921504606846976 := h
  have e : Builtin.Range.rangeSize 0 ((c * n : Nat) : Int) (c : Int) = (n : Int) := by
    rw [PyProof.Rows.rangeSize_pos (by omega) (by omega)]
    have e1 : ((c * n : Nat) : Int) + (c : Int) - 1 = ((c : Int) - 1) + (n : Int) * (c : Int) := by rw [Int.natCast_mul, Int.mul_comm (c : Int)]; omega
    rw [e1, Int.add_mul_ediv_right _ _ (by omega), Int.ediv_eq_zero_of_lt (by omega) (by omega)]
    omega
  have hn : n ≤ c * n := Nat.le_mul_of_pos_left n hc
  refine ⟨by omega, by omega, ?_, e⟩
  unfold Builtin.Range.small
  rw [e]
  have e2 : (c : Int) > 0 := by omega
  simp only [Builtin.Range.rangeFitsLong, Bool.and_eq_true, Bool.or_eq_true, decide_eq_true_eq, beq_iff_eq, e2, if_true]
  have e3 : ((c * n : Nat) : Int) = (c : Int) * (n : Int) := Int.natCast_mul c n
  refine ⟨?_, ?_⟩
  all_goals first | omega | (split <;> omega) | skip
/-! ### lists over two fors -/
theorem mod_sq {M x z : Int} (h : M ∣ x * x - z) : M ∣ x % M * (x % M) - z := by
  obtain ⟨c, hc⟩ := h
  have e := Int.mul_ediv_add_emod x M
  refine ⟨c - 2 * (x / M) * (x % M) - M * (x / M) * (x / M), ?_⟩
  generalize x / M = q at e ⊢
  generalize x % M = r at e ⊢
  subst e
  grind
theorem nodup_map_on {α β : Type} {f : α → β} : ∀ {l : List α}, l.Nodup → (∀ a ∈ l, ∀ b ∈ l, f a = f b → a = b) → (l.map f).Nodup
  | [], _, _ => List.nodup_nil
  | x :: r, h, k => by
    rw [List.nodup_cons] at h
    rw [List.map_cons, List.nodup_cons]
    refine ⟨fun hm => ?_, nodup_map_on h.2 fun a ha b hb => k a (List.mem_cons_of_mem _ ha) b (List.mem_cons_of_mem _ hb)⟩
    obtain ⟨y, hy, e⟩ := List.mem_map.mp hm
    have := k y (List.mem_cons_of_mem _ hy) x List.mem_cons_self e
    subst this
    exact h.1 hy
theorem nodup2 {α β γ : Type} {F : α → β → γ} {L2 : List β} (h2 : L2.Nodup) : ∀ {L1 : List α}, L1.Nodup → (∀ a ∈ L1, ∀ b ∈ L2, ∀ a' ∈ L1, ∀ b' ∈ L2, F a b = F a' b' → a = a' ∧ b = b') → (L1.flatMap fun a => L2.map (F a)).Nodup
  | [], _, _ => List.nodup_nil
  | x :: r, h, k => by
    rw [List.nodup_cons] at h
    rw [List.flatMap_cons, List.nodup_append]
    refine ⟨nodup_map_on h2 fun b hb b' hb' e => (k x List.mem_cons_self b hb x List.mem_cons_self b' hb' e).2, nodup2 h2 h.2 fun a ha b hb a' ha' b' hb' e => k a (List.mem_cons_of_mem _ ha) b hb a' (List.mem_cons_of_mem _ ha') b' hb' e, fun c hc c' hc' e => ?_⟩
    obtain ⟨b, hb, rfl⟩ := List.mem_map.mp hc
    obtain ⟨a', ha', hm⟩ := List.mem_flatMap.mp hc'
    obtain ⟨b', hb', rfl⟩ := List.mem_map.mp hm
    have := (k x List.mem_cons_self b hb a' (List.mem_cons_of_mem _ ha') b' hb' e).1
    subst this
    exact h.1 ha'
theorem len2 {α β γ : Type} {F : α → β → γ} {L2 : List β} : ∀ {L1 : List α}, (L1.flatMap fun a => L2.map (F a)).length = L1.length * L2.length
  | [] => by simp
  | x :: r => by
    rw [List.flatMap_cons, List.length_append, List.length_map, len2 (L1 := r), List.length_cons, Nat.succ_mul]
    omega
/-! ### roots modulo a power of a prime -/
theorem toL_spec {p : Nat} (hp : 2 ≤ p) : ∀ {f n k : Nat}, 0 < n → n < 2 ^ f → ∃ j, (toL p f n k).1 = k + j ∧ n = p ^ j * (toL p f n k).2 ∧ (toL p f n k).2 % p ≠ 0
  | 0, n, k, h0, h1 => by rw [Nat.pow_zero] at h1; omega
  | f + 1, n, k, h0, h1 => by
    unfold toL
    by_cases e : n % p = 0
    · rw [bifT (beqT e)]
      have hle : p ≤ n := Nat.le_of_dvd h0 (Nat.dvd_of_mod_eq_zero e)
      have d0 : 0 < n / p := Nat.div_pos hle (by omega)
      have d1 : n / p ≤ n / 2 := Nat.div_le_div_left hp (by decide)
      have e3 : (2 : Nat) ^ (f + 1) = 2 ^ f * 2 := Nat.pow_succ _ _
      obtain ⟨j, a, b, c⟩ := toL_spec hp (f := f) (n := n / p) (k := k + 1) d0 (by omega)
      refine ⟨j + 1, by omega, ?_, c⟩
      have e4 : n = p * (n / p) := (Nat.mul_div_cancel' (Nat.dvd_of_mod_eq_zero e)).symm
      rw [Nat.pow_succ, Nat.mul_comm (p ^ j) p, Nat.mul_assoc, ← b]
      exact e4
    · rw [bifF (beqF e)]
      exact ⟨0, rfl, by simp, e⟩
theorem rts_congr {z n : Int} {M : Nat} {L : List Int} (h : (M : Int) ∣ z - n) (R : Rts n M L) : Rts z M L := by
  refine ⟨R.1, fun x => (R.2 x).trans ⟨fun ⟨a, b, c⟩ => ⟨a, b, ?_⟩, fun ⟨a, b, c⟩ => ⟨a, b, ?_⟩⟩⟩
  · have e : x * x - z = (x * x - n) - (z - n) := by omega
    rw [e]
    exact Int.dvd_sub c h
  · have e : x * x - n = (x * x - z) + (z - n) := by omega
    rw [e]
    exact Int.dvd_add c h
theorem pow_split {p a b c : Nat} (h : a = b + c) : ((p ^ a : Nat) : Int) = ((p ^ b : Nat) : Int) * ((p ^ c : Nat) : Int) := by rw [h, Nat.pow_add, Int.natCast_mul]
/-- 0 modulo p ^ k -/
theorem rts_zero {p k : Nat} (h : Pr p) : Rts 0 (p ^ k) ((List.range (p ^ (k / 2))).map fun (t : Nat) => (0 : Int) + (t : Int) * ((p ^ (k - k / 2) : Nat) : Int)) := by
  have p2 := h.1
  have hM := pow_split (p := p) (a := k) (b := k / 2) (c := k - k / 2) (by omega)
  have s0 : 0 < p ^ (k - k / 2) := Nat.pow_pos (by omega)
  have a0 : 0 < p ^ (k / 2) := Nat.pow_pos (by omega)
  have hd : ∀ x : Int, ((p ^ k : Nat) : Int) ∣ x * x → ((p ^ (k - k / 2) : Nat) : Int) ∣ x := fun x hx => by
    by_cases ev : k % 2 = 0
    · have e : k = 2 * (k - k / 2) := by omega
      refine h.sq_dvd (k := k - k / 2) ?_
      rw [← e]
      exact hx
    · obtain ⟨y, hy⟩ := h.sq_dvd (k := k / 2) (x := x) (Int.dvd_trans ⟨(p : Int), by rw [← Int.natCast_mul, ← Nat.pow_succ]; congr 2; omega⟩ hx)
      have e1 : ((p ^ k : Nat) : Int) = ((p ^ (k / 2) : Nat) : Int) * ((p ^ (k / 2) : Nat) : Int) * (p : Int) := by
        rw [← Int.natCast_mul, ← Int.natCast_mul, ← Nat.pow_add, ← Nat.pow_succ]
        congr 2
        omega
      obtain ⟨c, hc⟩ := hx
      have an : ((p ^ (k / 2) : Nat) : Int) ≠ 0 := by omega
      have e2 : y * y = (p : Int) * c := by
        rw [hy, e1] at hc
        generalize ((p ^ (k / 2) : Nat) : Int) = A at hc an
        have e3 : A * (A * (y * y)) = A * (A * ((p : Int) * c)) := by grind
        exact Int.eq_of_mul_eq_mul_left an (Int.eq_of_mul_eq_mul_left an e3)
      have py : (p : Int) ∣ y := by rcases h.2 y y ⟨c, e2⟩ with z | z <;> exact z
      obtain ⟨w, hw⟩ := py
      refine ⟨w, ?_⟩
      rw [hy, hw, ← Int.mul_assoc, ← Int.natCast_mul, ← Nat.pow_succ]
      congr 3
      omega
  have hsq : ((p ^ k : Nat) : Int) ∣ ((p ^ (k - k / 2) : Nat) : Int) * ((p ^ (k - k / 2) : Nat) : Int) := by
    refine ⟨((p ^ (k - k / 2 - k / 2) : Nat) : Int), ?_⟩
    rw [← Int.natCast_mul, ← Int.natCast_mul, ← Nat.pow_add, ← Nat.pow_add]
    congr 2
    omega
  generalize p ^ k = M at hM hd hsq ⊢
  generalize p ^ (k - k / 2) = S at hM hd hsq s0 ⊢
  generalize p ^ (k / 2) = A at hM a0 ⊢
  have Sn : (S : Int) ≠ 0 := by omega
  refine ⟨nodup_map_on List.nodup_range fun a _ b _ e => ?_, fun x => ⟨fun hx => ?_, fun ⟨x0, x1, hx⟩ => ?_⟩⟩
  · have e2 : (a : Int) * (S : Int) = (b : Int) * (S : Int) := by omega
    have := Int.eq_of_mul_eq_mul_right Sn e2
    omega
  · obtain ⟨t, ht, rfl⟩ := List.mem_map.mp hx
    have ht2 := List.mem_range.mp ht
    refine ⟨?_, ?_, ?_⟩
    · have := Int.mul_nonneg (show (0 : Int) ≤ (t : Int) by omega) (show (0 : Int) ≤ (S : Int) by omega)
      omega
    · have := Int.mul_lt_mul_of_pos_right (show (t : Int) < (A : Int) by omega) (show (0 : Int) < (S : Int) by omega)
      omega
    · obtain ⟨c, hc⟩ := hsq
      exact ⟨(t : Int) * (t : Int) * c, by grind⟩
  · obtain ⟨c, hc⟩ := hd x (by rw [show x * x = x * x - 0 by omega]; exact hx)
    have c0 : 0 ≤ c := by
      by_cases z : 0 ≤ c
      · exact z
      · have := Int.mul_le_mul_of_nonneg_left (show c ≤ -1 by omega) (show (0 : Int) ≤ (S : Int) by omega)
        omega
    have c1 : c < (A : Int) := by
      by_cases z : c < (A : Int)
      · exact z
      · have := Int.mul_le_mul_of_nonneg_left (show (A : Int) ≤ c by omega) (show (0 : Int) ≤ (S : Int) by omega)
        have e := Int.mul_comm (S : Int) (A : Int)
        omega
    refine List.mem_map.mpr ⟨c.toNat, List.mem_range.mpr (by omega), ?_⟩
    rw [Int.toNat_of_nonneg c0, hc, Int.mul_comm]
    omega
/-- p ^ j * w, j odd: none -/
theorem rts_odd {p k j w : Nat} (h : Pr p) (hj : j % 2 = 1) (hk : j < k) (hw : w % p ≠ 0) : Rts ((p ^ j * w : Nat) : Int) (p ^ k) [] := by
  have p2 := h.1
  refine ⟨List.nodup_nil, fun x => ⟨(fun hx => nomatch hx), fun ⟨x0, x1, c, hx⟩ => ?_⟩⟩
  exfalso
  obtain ⟨i, rfl⟩ : ∃ i, j = 2 * i + 1 := ⟨j / 2, by omega⟩
  have e1 := pow_split (p := p) (a := k) (b := 2 * i) (c := k - 2 * i) (by omega)
  have e2 := pow_split (p := p) (a := 2 * i + 1) (b := 2 * i) (c := 1) rfl
  have e3 := pow_split (p := p) (a := k - 2 * i) (b := 2) (c := k - 2 * i - 2) (by omega)
  have e4 : ((p ^ 2 : Nat) : Int) = (p : Int) * (p : Int) := by rw [← Int.natCast_mul]; congr 1; rw [Nat.pow_succ, Nat.pow_one]
  rw [Nat.pow_one] at e2
  rw [Int.natCast_mul, e1, e2, e3, e4] at hx
  obtain ⟨y, hy⟩ := h.sq_dvd (k := i) (x := x) ⟨(p : Int) * (w : Int) + (p : Int) * (p : Int) * ((p ^ (k - 2 * i - 2) : Nat) : Int) * c, by
    generalize ((p ^ (2 * i) : Nat) : Int) = A at hx ⊢
    generalize ((p ^ (k - 2 * i - 2) : Nat) : Int) = B at hx ⊢
    grind⟩
  have e5 := pow_split (p := p) (a := 2 * i) (b := i) (c := i) (by omega)
  have an : ((p ^ i : Nat) : Int) ≠ 0 := by
    have : 0 < p ^ i := Nat.pow_pos (by omega)
    omega
  rw [hy, e5] at hx
  generalize ((p ^ i : Nat) : Int) = A at hx an
  generalize ((p ^ (k - 2 * i - 2) : Nat) : Int) = B at hx
  have e6 : A * (A * (y * y - (p : Int) * (w : Int))) = A * (A * ((p : Int) * (p : Int) * B * c)) := by grind
  have e7 := Int.eq_of_mul_eq_mul_left an (Int.eq_of_mul_eq_mul_left an e6)
  have py : (p : Int) ∣ y := by rcases h.2 y y ⟨(w : Int) + (p : Int) * B * c, by grind⟩ with z | z <;> exact z
  obtain ⟨v, hv⟩ := py
  have pn : (p : Int) ≠ 0 := by omega
  have e8 : (w : Int) = (p : Int) * (v * v - B * c) := by
    refine Int.eq_of_mul_eq_mul_left pn ?_
    rw [hv] at e7
    grind
  have e9 : (w : Int) % (p : Int) = 0 := by rw [e8]; exact Int.mul_emod_right _ _
  rw [← Int.natCast_emod] at e9
  omega
/-- p ^ (2 * i) * w -/
theorem rts_even {p k i w : Nat} {ns : List Int} (h : Pr p) (hk : 2 * i < k) (R : Rts (w : Int) (p ^ (k - 2 * i)) ns) : Rts ((p ^ (2 * i) * w : Nat) : Int) (p ^ k) (ns.flatMap fun y => (List.range (p ^ i)).map fun (t : Nat) => ((p ^ i : Nat) : Int) * (y + ((p ^ (k - 2 * i) : Nat) : Int) * (t : Int))) := by
  have p2 := h.1
  have e1 := pow_split (p := p) (a := k) (b := 2 * i) (c := k - 2 * i) (by omega)
  have e2 := pow_split (p := p) (a := 2 * i) (b := i) (c := i) (by omega)
  have hsq := fun (x : Int) (hx : ((p ^ (2 * i) : Nat) : Int) ∣ x * x) => h.sq_dvd (k := i) hx
  have a0 : 0 < p ^ i := Nat.pow_pos (by omega)
  have s0 : 0 < p ^ (k - 2 * i) := Nat.pow_pos (by omega)
  rw [e2] at e1 hsq
  rw [Int.natCast_mul, e2]
  generalize p ^ k = M at e1 ⊢
  generalize p ^ (k - 2 * i) = S at e1 s0 R ⊢
  generalize p ^ i = A at e1 hsq a0 ⊢
  have An : (A : Int) ≠ 0 := by omega
  obtain ⟨nd, mem⟩ := R
  have inj : ∀ y t y' t' : Int, 0 ≤ y → y < S → 0 ≤ y' → y' < S → (A : Int) * (y + (S : Int) * t) = (A : Int) * (y' + (S : Int) * t') → y = y' ∧ t = t' := by
    intro y t y' t' h1 h2 h3 h4 e
    have e3 := Int.eq_of_mul_eq_mul_left An e
    have e4 : (S : Int) * (t - t') = y' - y := by rw [Int.mul_sub]; omega
    have tt : t - t' = 0 := by
      by_cases a : t - t' ≤ -1
      · have := Int.mul_le_mul_of_nonneg_left a (show (0 : Int) ≤ (S : Int) by omega)
        omega
      · by_cases b : 1 ≤ t - t'
        · have := Int.mul_le_mul_of_nonneg_left b (show (0 : Int) ≤ (S : Int) by omega)
          omega
        · omega
    rw [tt, Int.mul_zero] at e4
    omega
  refine ⟨nodup2 List.nodup_range nd fun y hy t _ y' hy' t' _ e => ?_, fun x => ⟨fun hx => ?_, fun ⟨x0, x1, hx⟩ => ?_⟩⟩
  · have b1 := (mem y).mp hy
    have b2 := (mem y').mp hy'
    have := inj y t y' t' b1.1 b1.2.1 b2.1 b2.2.1 e
    omega
  · obtain ⟨y, hy, hm⟩ := List.mem_flatMap.mp hx
    obtain ⟨t, ht, rfl⟩ := List.mem_map.mp hm
    have ht2 := List.mem_range.mp ht
    obtain ⟨b1, b2, c, b3⟩ := (mem y).mp hy
    have z1 : 0 ≤ (S : Int) * (t : Int) := Int.mul_nonneg (by omega) (by omega)
    have z2 : (S : Int) * (t : Int) ≤ (S : Int) * ((A : Int) - 1) := Int.mul_le_mul_of_nonneg_left (by omega) (by omega)
    rw [Int.mul_sub, Int.mul_one] at z2
    refine ⟨Int.mul_nonneg (by omega) (by omega), ?_, ?_⟩
    · rw [e1, Int.mul_assoc]
      refine Int.mul_lt_mul_of_pos_left ?_ (by omega)
      have := Int.mul_comm (S : Int) (A : Int)
      omega
    · refine ⟨c + 2 * y * (t : Int) + (S : Int) * (t : Int) * (t : Int), ?_⟩
      rw [e1]
      clear z1 z2 hsq inj
      grind
  · obtain ⟨c, hc⟩ := hx
    obtain ⟨y, hy⟩ := hsq x ⟨(w : Int) + (S : Int) * c, by rw [e1] at hc; grind⟩
    have e5 : y * y - (w : Int) = (S : Int) * c := by
      rw [hy, e1] at hc
      have e6 : (A : Int) * ((A : Int) * (y * y - (w : Int))) = (A : Int) * ((A : Int) * ((S : Int) * c)) := by
        clear hsq inj
        grind
      exact Int.eq_of_mul_eq_mul_left An (Int.eq_of_mul_eq_mul_left An e6)
    have y0 : 0 ≤ y := by
      by_cases z : 0 ≤ y
      · exact z
      · have := Int.mul_le_mul_of_nonneg_left (show y ≤ -1 by omega) (show (0 : Int) ≤ (A : Int) by omega)
        omega
    have y1 : y < (A : Int) * (S : Int) := by
      by_cases z : y < (A : Int) * (S : Int)
      · exact z
      · have := Int.mul_le_mul_of_nonneg_left (show (A : Int) * (S : Int) ≤ y by omega) (show (0 : Int) ≤ (A : Int) by omega)
        rw [← Int.mul_assoc] at this
        omega
    have em := Int.mul_ediv_add_emod y (S : Int)
    have m0 := Int.emod_nonneg y (show (S : Int) ≠ 0 by omega)
    have m1 := Int.emod_lt_of_pos y (show (0 : Int) < (S : Int) by omega)
    have d0 : 0 ≤ y / (S : Int) := Int.ediv_nonneg y0 (by omega)
    have d1 : y / (S : Int) < (A : Int) := Int.ediv_lt_of_lt_mul (by omega) y1
    refine List.mem_flatMap.mpr ⟨y % (S : Int), (mem _).mpr ⟨m0, m1, mod_sq ⟨c, e5⟩⟩, List.mem_map.mpr ⟨(y / (S : Int)).toNat, List.mem_range.mpr (by omega), ?_⟩⟩
    rw [Int.toNat_of_nonneg d0, hy]
    congr 1
    omega
/-! ### what is known of a modulus: the program's prime parts, and that they are primes -/
def prodP : List (Nat × Nat) → Nat
  | [] => 1
  | (p, k) :: r => p ^ k * prodP r
def lenP : List (Nat × Nat) → Nat
  | [] => 1
  | (p, k) :: r => 4 * p ^ (k / 2) * lenP r
/-- each part: a prime with its exponent, without a common measure with what stood ahead of it -/
def FacP : Nat → List (Nat × Nat) → Prop
  | _, [] => True
  | acc, (p, k) :: r => (p = 2 ∨ PrimeOk p) ∧ 1 ≤ k ∧ k < 49 ∧ p ^ k ≤ 100000000 ∧ Nat.gcd acc (p ^ k) = 1 ∧ FacP (acc * p ^ k) r
structure FacOk (m : Nat) (l : List (Nat × Nat)) : Prop where
  pp : ppM m = some l
  prod : prodP l = m
  fac : FacP 1 l
  len : lenP l ≤ 16000000
/-! ### two moduli without a common measure -/
theorem cop_dvd {a b u v x : Int} (h : u * a + v * b = 1) (ha : a ∣ x) (hb : b ∣ x) : a * b ∣ x := by
  obtain ⟨c, hc⟩ := ha
  obtain ⟨d, hd⟩ := hb
  refine ⟨u * d + v * c, ?_⟩
  have e : x = x * (u * a + v * b) := by rw [h, Int.mul_one]
  rw [e]
  have e1 : x * (u * a) = a * b * (u * d) := by
    have : x * (u * a) = (b * d) * (u * a) := by rw [← hd]
    rw [this]
    grind
  have e2 : x * (v * b) = a * b * (v * c) := by
    have : x * (v * b) = (a * c) * (v * b) := by rw [← hc]
    rw [this]
    grind
  rw [Int.mul_add, e1, e2]
  grind
theorem rts_join {z u v : Int} {m1 m2 : Nat} {L1 L2 : List Int} (h1 : 0 < m1) (h2 : 0 < m2) (h : u * (m1 : Int) + v * (m2 : Int) = 1) (R1 : Rts z m1 L1) (R2 : Rts z m2 L2) :
    Rts z (m1 * m2) (L1.flatMap fun r => L2.map fun o => r + (m1 : Int) * ((o - r) * u % (m2 : Int))) := by
  have M : ((m1 * m2 : Nat) : Int) = (m1 : Int) * (m2 : Int) := Int.natCast_mul _ _
  have p1 : (0 : Int) < (m1 : Int) := by omega
  have p2 : (0 : Int) < (m2 : Int) := by omega
  obtain ⟨n1, k1⟩ := R1
  obtain ⟨n2, k2⟩ := R2
  unfold Rts
  rw [M]
  generalize (m1 : Int) = a at *
  generalize (m2 : Int) = b at *
  -- the joined number, modulo a and b
  have ja : ∀ r o : Int, a ∣ (r + a * ((o - r) * u % b)) - r := fun r o => ⟨(o - r) * u % b, by omega⟩
  have jb : ∀ r o : Int, b ∣ (r + a * ((o - r) * u % b)) - o := fun r o => by
    have e := Int.mul_ediv_add_emod ((o - r) * u) b
    generalize (o - r) * u % b = y at e ⊢
    generalize (o - r) * u / b = q at e
    refine ⟨(r - o) * v - a * q, ?_⟩
    have e2 : y = (o - r) * u - b * q := by omega
    rw [e2]
    clear e e2
    grind
  have jr : ∀ r o : Int, 0 ≤ r → r < a → 0 ≤ r + a * ((o - r) * u % b) ∧ r + a * ((o - r) * u % b) < a * b := fun r o r0 r1 => by
    have y0 := Int.emod_nonneg ((o - r) * u) (show b ≠ 0 by omega)
    have y1 := Int.emod_lt_of_pos ((o - r) * u) p2
    generalize (o - r) * u % b = y at y0 y1 ⊢
    have z0 := Int.mul_nonneg (show 0 ≤ a by omega) y0
    have z1 := Int.mul_le_mul_of_nonneg_left (show y ≤ b - 1 by omega) (show 0 ≤ a by omega)
    rw [Int.mul_sub, Int.mul_one] at z1
    omega
  have small : ∀ {m x y : Int}, 0 < m → 0 ≤ x → x < m → 0 ≤ y → y < m → m ∣ x - y → x = y := fun {m x y} hm x0 x1 y0 y1 ⟨c, hc⟩ => by
    have c0 : c = 0 := by
      by_cases s : c ≤ -1
      · have := Int.mul_le_mul_of_nonneg_left s (show 0 ≤ m by omega)
        omega
      · by_cases t : 1 ≤ c
        · have := Int.mul_le_mul_of_nonneg_left t (show 0 ≤ m by omega)
          omega
        · omega
    rw [c0, Int.mul_zero] at hc
    omega
  have cong : ∀ {m x y : Int}, m ∣ x - y → (m ∣ x * x - z ↔ m ∣ y * y - z) := fun {m x y} ⟨c, hc⟩ => by
    have e : x * x - z = (y * y - z) + m * (c * (x + y)) := by
      have : x * x - y * y = (x - y) * (x + y) := by grind
      rw [hc] at this
      grind
    rw [e]
    exact ⟨fun d => by
      have := Int.dvd_sub d ⟨c * (x + y), rfl⟩
      rw [Int.add_sub_cancel] at this
      exact this, fun d => Int.dvd_add d ⟨_, rfl⟩⟩
  refine ⟨nodup2 n2 n1 fun r hr o ho r' hr' o' ho' e => ?_, fun x => ⟨fun hx => ?_, fun ⟨x0, x1, hx⟩ => ?_⟩⟩
  · obtain ⟨a1, a2, _⟩ := (k1 r).mp hr
    obtain ⟨b1, b2, _⟩ := (k1 r').mp hr'
    obtain ⟨c1, c2, _⟩ := (k2 o).mp ho
    obtain ⟨d1, d2, _⟩ := (k2 o').mp ho'
    have q1 := ja r o
    have q2 := ja r' o'
    have q3 := jb r o
    have q4 := jb r' o'
    rw [e] at q1 q3
    refine ⟨small p1 a1 a2 b1 b2 ?_, small p2 c1 c2 d1 d2 ?_⟩
    · have := Int.dvd_sub q2 q1
      refine Int.dvd_trans this ⟨1, by omega⟩
    · have := Int.dvd_sub q4 q3
      refine Int.dvd_trans this ⟨1, by omega⟩
  · obtain ⟨r, hr, hm⟩ := List.mem_flatMap.mp hx
    obtain ⟨o, ho, rfl⟩ := List.mem_map.mp hm
    obtain ⟨a1, a2, a3⟩ := (k1 r).mp hr
    obtain ⟨c1, c2, c3⟩ := (k2 o).mp ho
    obtain ⟨w0, w1⟩ := jr r o a1 a2
    exact ⟨w0, w1, cop_dvd h ((cong (ja r o)).mpr a3) ((cong (jb r o)).mpr c3)⟩
  · have m1' : a ∣ x - x % a := ⟨x / a, by have := Int.mul_ediv_add_emod x a; omega⟩
    have m2' : b ∣ x - x % b := ⟨x / b, by have := Int.mul_ediv_add_emod x b; omega⟩
    have ra := (k1 (x % a)).mpr ⟨Int.emod_nonneg _ (by omega), Int.emod_lt_of_pos _ p1, (cong m1').mp (Int.dvd_trans ⟨b, rfl⟩ hx)⟩
    have rb := (k2 (x % b)).mpr ⟨Int.emod_nonneg _ (by omega), Int.emod_lt_of_pos _ p2, (cong m2').mp (Int.dvd_trans ⟨a, Int.mul_comm _ _⟩ hx)⟩
    refine List.mem_flatMap.mpr ⟨x % a, ra, List.mem_map.mpr ⟨x % b, rb, ?_⟩⟩
    have w := jr (x % a) (x % b) (Int.emod_nonneg _ (by omega)) (Int.emod_lt_of_pos _ p1)
    have d1 : a ∣ (x % a + a * ((x % b - x % a) * u % b)) - x := by
      have := Int.dvd_sub (ja (x % a) (x % b)) m1'
      exact Int.dvd_trans this ⟨1, by omega⟩
    have d2 : b ∣ (x % a + a * ((x % b - x % a) * u % b)) - x := by
      have := Int.dvd_sub (jb (x % a) (x % b)) m2'
      exact Int.dvd_trans this ⟨1, by omega⟩
    exact small (Int.mul_pos p1 p2) w.1 w.2 x0 x1 (cop_dvd h d1 d2)
/-! ### odd primes that are small: by trying all -/
def isPrT (p : Nat) : Bool := Nat.ble 2 p && (List.range p).all fun d => Nat.ble d 1 || !((p % d).beq 0)
def chkU (p : Nat) : Nat → Bool
  | 0 => true
  | u + 1 => (bif u.beq 0 then true else (bif resM u p then (match prM u p with | some r => Nat.blt r p && (r * r % p).beq u | none => false) else true) && resM (u * u % p) p) && chkU p u
def chkP (p : Nat) : Bool := isPrT p && (p % 2).beq 1 && chkU p p
theorem pr_of_trial {p : Nat} (h : isPrT p = true) : Pr p := by
  unfold isPrT at h
  rw [Bool.and_eq_true] at h
  obtain ⟨h1, h2⟩ := h
  have p2 : 2 ≤ p := Nat.le_of_ble_eq_true h1
  have nd : ∀ d, 2 ≤ d → d < p → ¬ d ∣ p := fun d d2 dp hd => by
    have h3 := List.all_eq_true.mp h2 d (List.mem_range.mpr dp)
    rw [Bool.or_eq_true] at h3
    rcases h3 with z | z
    · have := Nat.le_of_ble_eq_true z
      omega
    · rw [beqT (Nat.mod_eq_zero_of_dvd hd)] at z
      cases z
  refine ⟨p2, fun a b hab => ?_⟩
  have g1 : Nat.gcd p a.natAbs ∣ p := Nat.gcd_dvd_left _ _
  have g2 : Nat.gcd p a.natAbs ∣ a.natAbs := Nat.gcd_dvd_right _ _
  by_cases e : Nat.gcd p a.natAbs = 1
  · refine .inr (Int.ofNat_dvd_left.mpr ?_)
    have h5 : p ∣ a.natAbs * b.natAbs := by
      rw [← Int.natAbs_mul]
      exact Int.ofNat_dvd_left.mp hab
    exact Nat.Coprime.dvd_of_dvd_mul_left (show Nat.Coprime p a.natAbs from e) h5
  · have g0 : Nat.gcd p a.natAbs ≠ 0 := fun z => by
      rw [z] at g1
      have := Nat.eq_zero_of_zero_dvd g1
      omega
    have gp : Nat.gcd p a.natAbs = p := by
      by_cases z : Nat.gcd p a.natAbs = p
      · exact z
      · have := Nat.le_of_dvd (by omega) g1
        exact absurd g1 (nd _ (by omega) (by omega))
    rw [gp] at g2
    exact .inl (Int.ofNat_dvd_left.mpr g2)
theorem chkU_at {p : Nat} : ∀ {n u : Nat}, chkU p n = true → 0 < u → u < n → (resM u p = true → ∃ r, prM u p = some r ∧ r < p ∧ r * r % p = u) ∧ resM (u * u % p) p = true
  | 0, u, _, _, h => absurd h (by omega)
  | n + 1, u, h, h0, h1 => by
    unfold chkU at h
    rw [Bool.and_eq_true] at h
    by_cases e : u = n
    · subst e
      rw [bifF (beqF (show u ≠ 0 by omega)), Bool.and_eq_true] at h
      refine ⟨fun hr => ?_, h.1.2⟩
      have h2 := h.1.1
      rw [bifT hr] at h2
      cases hq : prM u p with
      | none =>
        rw [hq] at h2
        cases h2
      | some r =>
        rw [hq] at h2
        dsimp only at h2
        rw [Bool.and_eq_true] at h2
        exact ⟨r, rfl, by have := Nat.le_of_ble_eq_true h2.1; omega, Nat.eq_of_beq_eq_true h2.2⟩
    · exact chkU_at h.2 h0 (by omega)
theorem primeOk_of {p : Nat} (h : chkP p = true) : PrimeOk p := by
  unfold chkP at h
  rw [Bool.and_eq_true, Bool.and_eq_true] at h
  obtain ⟨⟨h1, h2⟩, h3⟩ := h
  have pr := pr_of_trial h1
  have p2 := pr.1
  refine ⟨pr, Nat.eq_of_beq_eq_true h2, fun u u0 u1 => ⟨fun hr => ?_, fun ⟨x, x1, hx⟩ => ?_⟩, fun u u0 u1 hr => (chkU_at h3 u0 u1).1 hr⟩
  · obtain ⟨r, _, r1, r2⟩ := (chkU_at h3 u0 u1).1 hr
    exact ⟨r, r1, r2⟩
  · have x0 : 0 < x := by
      cases x with
      | zero => rw [Nat.mul_zero, Nat.zero_mod] at hx; omega
      | succ x => omega
    rw [← hx]
    exact (chkU_at h3 x0 x1).2
def facB : Nat → List (Nat × Nat) → Bool
  | _, [] => true
  | acc, (p, k) :: r => (p.beq 2 || (isPrT p && (p % 2).beq 1)) && Nat.ble 1 k && Nat.ble k 48 && Nat.ble (p ^ k) 100000000 && (Nat.gcd acc (p ^ k)).beq 1 && facB (acc * p ^ k) r
def facM (m : Nat) : Bool := match ppM m with
  | none => false
  | some l => (prodP l).beq m && facB 1 l && Nat.ble (lenP l) 16000000
theorem facB_ok (N : Nat) (hp : ∀ p, p ≤ N → isPrT p = true → p % 2 = 1 → PrimeOk p) : ∀ {l : List (Nat × Nat)} {acc : Nat}, (∀ q ∈ l, q.1 ≤ N) → facB acc l = true → FacP acc l
  | [], _, _, _ => trivial
  | (p, k) :: r, acc, hN, h => by
    unfold facB at h
    simp only [Bool.and_eq_true, Bool.or_eq_true] at h
    obtain ⟨⟨⟨⟨⟨h1, h2⟩, h3⟩, h4⟩, h5⟩, h6⟩ := h
    refine ⟨?_, Nat.le_of_ble_eq_true h2, Nat.lt_succ_of_le (Nat.le_of_ble_eq_true h3), Nat.le_of_ble_eq_true h4, Nat.eq_of_beq_eq_true h5, facB_ok N hp (fun q hq => hN q (List.mem_cons_of_mem _ hq)) h6⟩
    rcases h1 with z | ⟨z1, z2⟩
    · exact .inl (Nat.eq_of_beq_eq_true z)
    · exact .inr (hp p (hN (p, k) List.mem_cons_self) z1 (Nat.eq_of_beq_eq_true z2))
theorem resM_mod (u p : Nat) : resM (u % p) p = resM u p := by
  unfold resM pmod
  rw [Nat.mod_mod]
theorem prM_some {u p : Nat} (h : PrimeOk p) (hu : u % p ≠ 0) (hr : resM u p = true) : ∃ r, prM (u % p) p = some r ∧ r < p ∧ r * r % p = u % p := by
  have p2 := h.pr.1
  refine h.root (u % p) (by omega) (Nat.mod_lt _ (by omega)) ?_
  rw [resM_mod]
  exact hr
theorem no_root {u p k : Nat} (h : PrimeOk p) (hu : u % p ≠ 0) (hr : resM u p = false) {x : Int} (x0 : 0 ≤ x) (hx : ((p ^ (k + 1) : Nat) : Int) ∣ x * x - (u : Int)) : False := by
  have p2 := h.pr.1
  obtain ⟨n, rfl⟩ := Int.eq_ofNat_of_zero_le x0
  have e : resM (u % p) p = true := (h.euler (u % p) (by omega) (Nat.mod_lt _ (by omega))).mpr ⟨n % p, Nat.mod_lt _ (by omega), ?_⟩
  · rw [resM_mod, hr] at e
    cases e
  · rw [← Nat.mul_mod]
    have hd : (p : Int) ∣ (n : Int) * (n : Int) - (u : Int) := Int.dvd_trans ⟨((p ^ k : Nat) : Int), by rw [Nat.pow_succ, Int.natCast_mul, Int.mul_comm]⟩ hx
    have e2 := Int.emod_emod_of_dvd ((n : Int) * (n : Int)) (Int.dvd_refl (p : Int))
    have e3 : ((n : Int) * (n : Int)) % (p : Int) = (u : Int) % (p : Int) := Int.emod_eq_emod_iff_emod_sub_eq_zero.mpr (Int.emod_eq_zero_of_dvd hd)
    rw [← Int.natCast_mul, ← Int.natCast_emod, ← Int.natCast_emod] at e3
    exact_mod_cast e3
theorem pr_two : Pr 2 := ⟨Nat.le_refl 2, fun a b ⟨c, hc⟩ => by
  by_cases z : a % 2 = 0
  · exact .inl ⟨a / 2, by show a = 2 * (a / 2); omega⟩
  · by_cases y : b % 2 = 0
    · exact .inr ⟨b / 2, by show b = 2 * (b / 2); omega⟩
    · obtain ⟨s, hs⟩ : ∃ s, a = 2 * s + 1 := ⟨a / 2, by omega⟩
      obtain ⟨t, ht⟩ : ∃ t, b = 2 * t + 1 := ⟨b / 2, by omega⟩
      have e : a * b = 2 * (2 * (s * t) + s + t) + 1 := by rw [hs, ht]; grind
      have e2 : a * b = 2 * c := hc
      omega⟩
theorem odd_sq8 {x : Int} (h : x % 2 = 1) : ∃ c, x * x = 1 + 8 * c := by
  obtain ⟨a, ha⟩ : ∃ a, x = 2 * a + 1 := ⟨x / 2, by omega⟩
  by_cases z : a % 2 = 0
  · obtain ⟨b, hb⟩ : ∃ b, a = 2 * b := ⟨a / 2, by omega⟩
    exact ⟨b * (2 * b + 1), by rw [ha, hb]; grind⟩
  · obtain ⟨b, hb⟩ : ∃ b, a = 2 * b + 1 := ⟨a / 2, by omega⟩
    exact ⟨(2 * b + 1) * (b + 1), by rw [ha, hb]; grind⟩
theorem odd_of_root {x u m : Int} (h : 2 ∣ m) (hu : u % 2 = 1) (hx : m ∣ x * x - u) : x % 2 = 1 := by
  by_cases z : x % 2 = 1
  · exact z
  · obtain ⟨b, hb⟩ : ∃ b, x = 2 * b := ⟨x / 2, by omega⟩
    obtain ⟨a, ha⟩ := h
    obtain ⟨c, hc⟩ := hx
    rw [hb, ha] at hc
    have e : 2 * b * (2 * b) - u = 2 * (a * c) := by rw [hc, Int.mul_assoc]
    have e2 : 2 * b * (2 * b) = 2 * (b * (2 * b)) := Int.mul_assoc _ _ _
    omega
theorem two_rts {u r F : Int} (hu : u % 2 = 1) (hF : ∃ G, F = 2 * G ∧ G % 2 = 0 ∧ 0 < G) (r0 : 0 < r) (r1 : r < F) (hr : 2 * F ∣ r * r - u) (pw : ∀ a b : Int, a % 2 = 1 → F ∣ a * b → F ∣ b) :
    List.Nodup [r, F - r, F + r, 2 * F - r] ∧ ∀ x, x ∈ [r, F - r, F + r, 2 * F - r] ↔ (0 ≤ x ∧ x < 2 * F ∧ 2 * F ∣ x * x - u) := by
  obtain ⟨G, eG, G2, G0⟩ := hF
  have rodd := odd_of_root ⟨F, rfl⟩ hu hr
  obtain ⟨c, hc⟩ := hr
  refine ⟨?_, fun x => ⟨fun hx => ?_, fun ⟨x0, x1, c', hx⟩ => ?_⟩⟩
  · simp only [List.nodup_cons, List.mem_cons, List.not_mem_nil, or_false, List.nodup_nil, and_true, not_or, not_false_eq_true]
    omega
  · have sq : ∀ k s : Int, (s = 1 ∨ s = -1) → 2 * F ∣ (k * F + s * r) * (k * F + s * r) - u := fun k s hs => by
      refine ⟨k * k * G + k * s * r + c, ?_⟩
      rcases hs with rfl | rfl <;> grind
    simp only [List.mem_cons, List.not_mem_nil, or_false] at hx
    rcases hx with rfl | rfl | rfl | rfl
    · exact ⟨by omega, by omega, c, hc⟩
    · refine ⟨by omega, by omega, ?_⟩
      have z := sq 1 (-1) (.inr rfl)
      rw [show (1 : Int) * F + -1 * r = F - r by omega] at z
      exact z
    · refine ⟨by omega, by omega, ?_⟩
      have z := sq 1 1 (.inl rfl)
      rw [show (1 : Int) * F + 1 * r = F + r by omega] at z
      exact z
    · refine ⟨by omega, by omega, ?_⟩
      have z := sq 2 (-1) (.inr rfl)
      rw [show (2 : Int) * F + -1 * r = 2 * F - r by omega] at z
      exact z
  · have xodd := odd_of_root ⟨F, rfl⟩ hu ⟨c', hx⟩
    obtain ⟨s, hs⟩ : ∃ s, x - r = 2 * s := ⟨(x - r) / 2, by omega⟩
    obtain ⟨t, ht⟩ : ∃ t, x + r = 2 * t := ⟨(x + r) / 2, by omega⟩
    have e : 2 * (s * t) = F * (c' - c) := by
      have e1 : (x - r) * (x + r) = 2 * F * (c' - c) := by grind
      rw [hs, ht] at e1
      have e2 : 2 * (2 * (s * t)) = 2 * (F * (c' - c)) := by grind
      omega
    -- s + t = x is odd: one of the two is odd
    have fin : ∀ y : Int, y = r ∨ y = -r → F ∣ x - y → x ∈ [r, F - r, F + r, 2 * F - r] := fun y hy ⟨k, hk⟩ => by
      have k0 : k = 0 ∨ k = 1 ∨ k = 2 := by
        by_cases a : k ≤ -1
        · have z := Int.mul_le_mul_of_nonneg_left a (show 0 ≤ F by omega)
          omega
        · by_cases b : 3 ≤ k
          · have z := Int.mul_le_mul_of_nonneg_left b (show 0 ≤ F by omega)
            omega
          · omega
      simp only [List.mem_cons, List.not_mem_nil, or_false]
      rcases k0 with rfl | rfl | rfl <;> rcases hy with rfl | rfl <;> omega
    by_cases so : s % 2 = 1
    · refine fin (-r) (.inr rfl) ?_
      rw [show x - -r = 2 * t by omega]
      exact pw s (2 * t) so ⟨c' - c, by rw [← e]; grind⟩
    · refine fin r (.inl rfl) ?_
      rw [hs]
      exact pw t (2 * s) (by omega) ⟨c' - c, by rw [← e]; grind⟩
theorem two_pw {k : Nat} {a b : Int} (ha : a % 2 = 1) (h : ((2 ^ k : Nat) : Int) ∣ a * b) : ((2 ^ k : Nat) : Int) ∣ b := by
  have p2 : Pr 2 := ⟨Nat.le_refl 2, fun a b ⟨c, hc⟩ => by
    by_cases z : a % 2 = 0
    · exact .inl ⟨a / 2, by show a = 2 * (a / 2); omega⟩
    · by_cases y : b % 2 = 0
      · exact .inr ⟨b / 2, by show b = 2 * (b / 2); omega⟩
      · obtain ⟨s, hs⟩ : ∃ s, a = 2 * s + 1 := ⟨a / 2, by omega⟩
        obtain ⟨t, ht⟩ : ∃ t, b = 2 * t + 1 := ⟨b / 2, by omega⟩
        have e : a * b = 2 * (2 * (s * t) + s + t) + 1 := by rw [hs, ht]; grind
        have e2 : a * b = 2 * c := hc
        omega⟩
  refine p2.pow_dvd (fun ⟨c, hc⟩ => ?_) h
  have e2 : a = 2 * c := hc
  omega
/-! ### how many -/
theorem nodup_len {α : Type} [DecidableEq α] : ∀ {l m : List α}, l.Nodup → (∀ x ∈ l, x ∈ m) → l.length ≤ m.length
  | [], _, _, _ => Nat.zero_le _
  | x :: r, m, h, k => by
    rw [List.nodup_cons] at h
    have hx := k x List.mem_cons_self
    have h2 := nodup_len (l := r) (m := m.erase x) h.2 fun y hy => by
      have hne : y ≠ x := fun e => h.1 (e ▸ hy)
      exact (List.mem_erase_of_ne hne).mpr (k y (List.mem_cons_of_mem _ hy))
    rw [List.length_erase_of_mem hx] at h2
    have : 0 < m.length := List.length_pos_of_mem hx
    rw [List.length_cons]
    omega
theorem rts_len {z : Int} {m : Nat} {L L' : List Int} (R : Rts z m L) (R' : Rts z m L') : L.length = L'.length :=
  Nat.le_antisymm (nodup_len R.1 fun x hx => (R'.2 x).mpr ((R.2 x).mp hx)) (nodup_len R'.1 fun x hx => (R.2 x).mpr ((R'.2 x).mp hx))
theorem bez_ex : ∀ (n a b : Nat), b ≤ n → ∃ u v : Int, u * (a : Int) + v * (b : Int) = ((Nat.gcd a b : Nat) : Int)
  | 0, a, b, h => ⟨1, 0, by
    have e : b = 0 := by omega
    rw [e, Nat.gcd_zero_right]
    omega⟩
  | n + 1, a, b, h => by
    by_cases e : b = 0
    · exact ⟨1, 0, by rw [e, Nat.gcd_zero_right]; omega⟩
    · obtain ⟨u, v, huv⟩ := bez_ex n b (a % b) (by have := Nat.mod_lt a (show 0 < b by omega); omega)
      refine ⟨v, u - v * ((a / b : Nat) : Int), ?_⟩
      have e1 : Nat.gcd b (a % b) = Nat.gcd a b := by rw [Nat.gcd_comm b, ← Nat.gcd_rec, Nat.gcd_comm]
      rw [e1] at huv
      rw [← huv]
      have e2 : (a : Int) = (b : Int) * ((a / b : Nat) : Int) + ((a % b : Nat) : Int) := by
        rw [← Int.natCast_mul, ← Int.natCast_add, Nat.div_add_mod]
      generalize ((a / b : Nat) : Int) = q at e2 ⊢
      generalize ((a % b : Nat) : Int) = r at e2 ⊢
      rw [e2]
      grind
theorem gcd_ne {p : Nat} (h : Pr p) {a : Nat} (ha : ¬ (p : Int) ∣ (a : Int)) : Nat.gcd a p = 1 := by
  have h1 : Nat.gcd a p ∣ p := Nat.gcd_dvd_right _ _
  have h2 : Nat.gcd a p ∣ a := Nat.gcd_dvd_left _ _
  generalize Nat.gcd a p = g at h1 h2
  obtain ⟨t, ht⟩ := h1
  have p2 := h.1
  rcases h.2 (g : Int) (t : Int) ⟨1, by rw [← Int.natCast_mul, ← ht, Int.mul_one]⟩ with z | z
  · exact absurd (Int.dvd_trans z (Int.natCast_dvd_natCast.mpr h2)) ha
  · obtain ⟨c, hc⟩ := Int.natCast_dvd_natCast.mp z
    rw [hc] at ht
    have e : p * 1 = p * (g * c) := by
      rw [Nat.mul_one]
      calc p = g * (p * c) := ht
        _ = p * (g * c) := by ac_rfl
    exact Nat.eq_one_of_mul_eq_one_right (Nat.eq_of_mul_eq_mul_left (by omega) e).symm
/-- a root modulo each power, from one modulo p -/
theorem lift_ex {p : Nat} {u : Int} {r : Nat} (h : Pr p) (h2 : ¬ (p : Int) ∣ 2 * (r : Int)) (hr : (p : Int) ∣ (r : Int) * (r : Int) - u) : ∀ k : Nat, ∃ x : Int, 0 ≤ x ∧ x < ((p ^ (k + 1) : Nat) : Int) ∧ ((p ^ (k + 1) : Nat) : Int) ∣ x * x - u ∧ (p : Int) ∣ x - (r : Int)
  | 0 => by
    have p2 := h.1
    have p0 : (p : Int) ≠ 0 := by omega
    rw [Nat.zero_add, Nat.pow_one]
    refine ⟨(r : Int) % (p : Int), Int.emod_nonneg _ p0, Int.emod_lt_of_pos _ (by omega), mod_sq hr, ⟨-((r : Int) / (p : Int)), ?_⟩⟩
    have := Int.mul_ediv_add_emod (r : Int) (p : Int)
    rw [Int.mul_neg]
    omega
  | k + 1 => by
    have p2 := h.1
    obtain ⟨x, x0, x1, ⟨c, hc⟩, ⟨w, hw⟩⟩ := lift_ex h h2 hr k
    obtain ⟨inv, v, hb⟩ := bez_ex p (2 * r) p (Nat.le_refl _)
    rw [gcd_ne h (a := 2 * r) (by rw [Int.natCast_mul]; exact h2), Int.natCast_mul] at hb
    have hb' : inv * (2 * (r : Int)) + v * (p : Int) = 1 := hb
    have M0 : (0 : Int) < ((p ^ (k + 2) : Nat) : Int) := by
      have : 0 < p ^ (k + 2) := Nat.pow_pos (by omega)
      omega
    have h2' : inv * (2 * x) - 1 = (p : Int) * (inv * 2 * w - v) := by
      have e1 : x = (r : Int) + (p : Int) * w := by omega
      rw [e1]
      clear hc e1
      grind
    have h3 : ((p ^ (k + 1) : Nat) : Int) = (p : Int) * ((p ^ k : Nat) : Int) := by rw [Nat.pow_succ, Int.natCast_mul, Int.mul_comm]
    obtain ⟨m, hm⟩ := lift_step hc h2' h3
    have eM2 : ((p ^ (k + 2) : Nat) : Int) = ((p ^ (k + 1) : Nat) : Int) * (p : Int) := by rw [Nat.pow_succ p (k + 1), Int.natCast_mul]
    refine ⟨(x - (x * x - u) * inv) % ((p ^ (k + 2) : Nat) : Int), Int.emod_nonneg _ (by omega), Int.emod_lt_of_pos _ M0, mod_sq ⟨m, by rw [hm, eM2]⟩, ?_⟩
    have dm := Int.mul_ediv_add_emod (x - (x * x - u) * inv) ((p ^ (k + 2) : Nat) : Int)
    generalize (x - (x * x - u) * inv) % ((p ^ (k + 2) : Nat) : Int) = y at dm ⊢
    generalize (x - (x * x - u) * inv) / ((p ^ (k + 2) : Nat) : Int) = qq at dm
    rw [hc, eM2, h3] at dm
    refine ⟨w - ((p ^ k : Nat) : Int) * c * inv - ((p ^ k : Nat) : Int) * (p : Int) * qq, ?_⟩
    generalize ((p ^ k : Nat) : Int) = A at dm ⊢
    clear hc hm h2' h3 eM2
    grind
theorem sq_mod_dvd {u p r : Nat} (h : r * r % p = u % p) : (p : Int) ∣ (r : Int) * (r : Int) - (u : Int) := by
  refine Int.dvd_of_emod_eq_zero (Int.emod_eq_emod_iff_emod_sub_eq_zero.mp ?_)
  rw [← Int.natCast_mul, ← Int.natCast_emod, ← Int.natCast_emod, h]
theorem two_r {u p r : Nat} (h : Pr p) (p3 : 2 < p) (hu : u % p ≠ 0) (hr : (p : Int) ∣ (r : Int) * (r : Int) - (u : Int)) : ¬ (p : Int) ∣ 2 * (r : Int) := by
  intro hd
  rcases h.2 _ _ hd with ⟨c, hc⟩ | ⟨c, hc⟩
  · have c1 : 1 ≤ c := by
      by_cases z : 1 ≤ c
      · exact z
      · have := Int.mul_le_mul_of_nonneg_left (show c ≤ 0 by omega) (show (0 : Int) ≤ (p : Int) by omega)
        omega
    have := Int.mul_le_mul_of_nonneg_left c1 (show (0 : Int) ≤ (p : Int) by omega)
    omega
  · obtain ⟨w, hw⟩ := hr
    have e : (u : Int) = (p : Int) * (c * (r : Int) - w) := by
      rw [Int.mul_sub, ← hw, ← Int.mul_assoc, ← hc]
      omega
    have e2 : (u : Int) % (p : Int) = 0 := by rw [e]; exact Int.mul_emod_right _ _
    rw [← Int.natCast_emod] at e2
    omega
/-- the number of roots of a number that p doesn't measure -/
def cntU (u p k : Nat) : Nat := if 2 < p then (if resM u p = true then 2 else 0) else if k = 1 then 1 else if k = 2 then (if u % 4 = 1 then 2 else 0) else (if u % 8 = 1 then 4 else 0)
theorem two_ex {u : Int} (hu : u % 8 = 1) : ∀ j : Nat, ∃ x : Int, 0 < x ∧ x < 4 * ((2 ^ j : Nat) : Int) ∧ 8 * ((2 ^ j : Nat) : Int) ∣ x * x - u
  | 0 => ⟨1, by decide, by decide, ⟨(1 - u) / 8, by show (1 : Int) * 1 - u = 8 * 1 * ((1 - u) / 8); omega⟩⟩
  | j + 1 => by
    obtain ⟨x, x0, x1, c, hc⟩ := two_ex hu j
    have es : ((2 ^ (j + 1) : Nat) : Int) = 2 * ((2 ^ j : Nat) : Int) := by rw [Nat.pow_succ, Int.natCast_mul, Int.mul_comm]; rfl
    have xodd := odd_of_root (m := 8 * ((2 ^ j : Nat) : Int)) ⟨4 * ((2 ^ j : Nat) : Int), by omega⟩ (by omega) ⟨c, hc⟩
    rw [es]
    generalize ((2 ^ j : Nat) : Int) = A at *
    by_cases codd : c % 2 = 1
    · obtain ⟨b, hb⟩ : ∃ b, c = 2 * b + 1 := ⟨c / 2, by omega⟩
      obtain ⟨y, hy⟩ : ∃ y, x = 2 * y + 1 := ⟨x / 2, by omega⟩
      refine ⟨x + 4 * A, by omega, by omega, b + 1 + y + A, ?_⟩
      subst hb
      clear es
      grind
    · obtain ⟨b, hb⟩ : ∃ b, c = 2 * b := ⟨c / 2, by omega⟩
      exact ⟨x, by omega, by omega, b, by rw [hc, hb]; grind⟩
theorem cntU_ok {u p k : Nat} (hp : p = 2 ∨ PrimeOk p) (hu : u % p ≠ 0) : ∃ L, Rts (u : Int) (p ^ (k + 1)) L ∧ L.length = cntU u p (k + 1) := by
  unfold cntU
  rcases hp with e | hp
  · subst e
    rw [if_neg (by decide)]
    have hodd : (u : Int) % 2 = 1 := by omega
    by_cases k1 : k + 1 = 1
    · rw [if_pos k1, k1]
      refine ⟨[1], ⟨by decide, fun x => ?_⟩, rfl⟩
      rw [List.mem_singleton]
      show x = 1 ↔ 0 ≤ x ∧ x < 2 ∧ (2 : Int) ∣ x * x - u
      refine ⟨fun e => ⟨by omega, by omega, by rw [e]; exact ⟨(1 - u) / 2, by omega⟩⟩, fun ⟨a, b, c⟩ => ?_⟩
      have := odd_of_root ⟨1, rfl⟩ hodd c
      omega
    · rw [if_neg k1]
      by_cases k2 : k + 1 = 2
      · rw [if_pos k2, k2]
        by_cases m4 : u % 4 = 1
        · rw [if_pos m4]
          refine ⟨[1, 3], ⟨by decide, fun x => ?_⟩, rfl⟩
          simp only [List.mem_cons, List.not_mem_nil, or_false]
          show x = 1 ∨ x = 3 ↔ 0 ≤ x ∧ x < 4 ∧ (4 : Int) ∣ x * x - u
          refine ⟨fun e => ?_, fun ⟨a, b, c⟩ => ?_⟩
          · rcases e with rfl | rfl
            · exact ⟨by omega, by omega, ⟨(1 - u) / 4, by omega⟩⟩
            · exact ⟨by omega, by omega, ⟨(9 - u) / 4, by omega⟩⟩
          · have := odd_of_root ⟨2, rfl⟩ hodd c
            omega
        · rw [if_neg m4]
          refine ⟨[], ⟨List.nodup_nil, fun x => ⟨(fun hx => nomatch hx), fun ⟨a, b, c⟩ => ?_⟩⟩, rfl⟩
          change (4 : Int) ∣ x * x - u at c
          obtain ⟨y, hy⟩ := odd_sq8 (odd_of_root ⟨2, rfl⟩ hodd c)
          obtain ⟨w, hw⟩ := c
          omega
      · rw [if_neg k2]
        obtain ⟨j, rfl⟩ : ∃ j, k = j + 2 := ⟨k - 2, by omega⟩
        have e8 : ((2 ^ (j + 3) : Nat) : Int) = 8 * ((2 ^ j : Nat) : Int) := by rw [Nat.pow_add, Int.natCast_mul, Int.mul_comm]; rfl
        by_cases m8 : u % 8 = 1
        · rw [if_pos m8]
          obtain ⟨x, c1, c2, c3⟩ := two_ex (u := (u : Int)) (by omega) j
          have j0 : 0 < 2 ^ j := Nat.two_pow_pos j
          have e4 : ((2 ^ (j + 2) : Nat) : Int) = 4 * ((2 ^ j : Nat) : Int) := by rw [Nat.pow_add, Int.natCast_mul, Int.mul_comm]; rfl
          have pw : ∀ a b : Int, a % 2 = 1 → 4 * ((2 ^ j : Nat) : Int) ∣ a * b → 4 * ((2 ^ j : Nat) : Int) ∣ b := fun a b ha hd => by
            rw [← e4] at hd ⊢
            exact two_pw ha hd
          have R := two_rts (F := 4 * ((2 ^ j : Nat) : Int)) hodd ⟨2 * ((2 ^ j : Nat) : Int), by omega, by omega, by omega⟩ c1 c2 (by rw [show 2 * (4 * ((2 ^ j : Nat) : Int)) = 8 * ((2 ^ j : Nat) : Int) by omega]; exact c3) pw
          rw [show 2 * (4 * ((2 ^ j : Nat) : Int)) = 8 * ((2 ^ j : Nat) : Int) by omega] at R
          refine ⟨[x, 4 * ((2 ^ j : Nat) : Int) - x, 4 * ((2 ^ j : Nat) : Int) + x, 8 * ((2 ^ j : Nat) : Int) - x], ?_, rfl⟩
          unfold Rts
          rw [e8]
          exact R
        · rw [if_neg m8]
          refine ⟨[], ⟨List.nodup_nil, fun x => ⟨(fun hx => nomatch hx), fun ⟨a, b, c⟩ => ?_⟩⟩, rfl⟩
          change ((2 ^ (j + 3) : Nat) : Int) ∣ x * x - u at c
          rw [e8] at c
          obtain ⟨y, hy⟩ := odd_sq8 (odd_of_root (m := 8 * ((2 ^ j : Nat) : Int)) ⟨4 * ((2 ^ j : Nat) : Int), by omega⟩ hodd c)
          obtain ⟨w, hw⟩ := c
          rw [Int.mul_assoc] at hw
          omega
  · have p2 := hp.pr.1
    have p3 : 2 < p := by have := hp.odd; omega
    rw [if_pos p3]
    cases hr : resM u p with
    | false =>
      rw [if_neg (by decide)]
      exact ⟨[], ⟨List.nodup_nil, fun x => ⟨(fun hx => nomatch hx), fun ⟨a, b, c⟩ => (no_root hp hu hr a c).elim⟩⟩, rfl⟩
    | true =>
      rw [if_pos rfl]
      obtain ⟨r, _, r1, r2⟩ := prM_some hp hu hr
      have hd := sq_mod_dvd r2
      have h2 := two_r hp.pr p3 hu hd
      obtain ⟨x, x0, x1, hx, ⟨w, hw⟩⟩ := lift_ex hp.pr h2 hd k
      have hx2 : ¬ (p : Int) ∣ 2 * x := by
        rintro ⟨c, hc⟩
        exact h2 ⟨c - 2 * w, by rw [Int.mul_sub, ← hc, show (p : Int) * (2 * w) = 2 * ((p : Int) * w) by grind, ← hw]; omega⟩
      exact ⟨_, unit_rts hp.pr hx2 hx x0 x1, rfl⟩

/-! ### what the law tries -/
def tried (d m : Int) (i : Nat) : List Int := ((List.range i).map fun (t : Nat) => (t : Int)).filter fun x => decide ((x * x - d) % m = 0)
theorem tried_succ (d m : Int) (i : Nat) : tried d m (i + 1) = tried d m i ++ (if ((i : Int) * (i : Int) - d) % m = 0 then [(i : Int)] else []) := by
  unfold tried
  rw [List.range_succ, List.map_append, List.filter_append]
  congr 1
  show List.filter _ [(i : Int)] = _
  by_cases h : ((i : Int) * (i : Int) - d) % m = 0
  · rw [if_pos h, List.filter_cons_of_pos (by exact decide_eq_true h)]
    rfl
  · rw [if_neg h, List.filter_cons_of_neg (by simp [h])]
    rfl
theorem tried_len (d m : Int) (i : Nat) : (tried d m i).length ≤ i := by
  unfold tried
  refine Nat.le_trans (List.length_filter_le _ _) ?_
  rw [List.length_map, List.length_range]
  exact Nat.le_refl _
theorem tried_rts (d : Int) (m : Nat) : Rts d m (tried d (m : Int) m) := by
  unfold tried
  refine ⟨List.Pairwise.filter _ (nodup_map_on List.nodup_range fun a _ b _ e => by omega), fun x => ?_⟩
  rw [List.mem_filter, decide_eq_true_iff]
  constructor
  · rintro ⟨hx, h⟩
    obtain ⟨t, ht, rfl⟩ := List.mem_map.mp hx
    have := List.mem_range.mp ht
    exact ⟨by omega, by omega, Int.dvd_of_emod_eq_zero h⟩
  · rintro ⟨h0, h1, h2⟩
    exact ⟨List.mem_map.mpr ⟨x.toNat, List.mem_range.mpr (by omega), Int.toNat_of_nonneg h0⟩, Int.emod_eq_zero_of_dvd h2⟩
theorem tried_sorted (d m : Int) (i : Nat) : (tried d m i).Pairwise (· ≤ ·) := by
  unfold tried
  refine List.Pairwise.filter _ (List.pairwise_map.mpr ?_)
  exact (List.pairwise_lt_range (n := i)).imp fun h => by omega
theorem rts_eq {d : Int} {m : Nat} {L : List Int} (R : Rts d m L) (s : L.Pairwise (· ≤ ·)) : L = tried d (m : Int) m := by
  have R2 := tried_rts d m
  exact PySem.W.ksm_same ((List.perm_ext_iff_of_nodup R.1 R2.1).mpr fun x => (R.2 x).trans (R2.2 x).symm) s (tried_sorted _ _ _)
theorem res_tried {d : Int} {p : Nat} (h : PrimeOk p) (hd : d % (p : Int) ≠ 0) : resM (d % (p : Int)).toNat p = decide (0 < (tried d (p : Int) p).length) := by
  have p2 := h.pr.1
  have r0 := Int.emod_nonneg d (show (p : Int) ≠ 0 by omega)
  have r1 := Int.emod_lt_of_pos d (show (0 : Int) < (p : Int) by omega)
  have eu := h.euler (d % (p : Int)).toNat (by omega) (by omega)
  have key : (∃ x, x < p ∧ x * x % p = (d % (p : Int)).toNat) ↔ 0 < (tried d (p : Int) p).length := by
    constructor
    · rintro ⟨x, x1, hx⟩
      refine List.length_pos_of_mem (a := (x : Int)) ((tried_rts d p).2 _ |>.mpr ⟨by omega, by omega, ?_⟩)
      refine Int.dvd_of_emod_eq_zero (Int.emod_eq_emod_iff_emod_sub_eq_zero.mp ?_)
      rw [← Int.natCast_mul, ← Int.natCast_emod, hx]
      omega
    · intro hl
      obtain ⟨y, hy⟩ := List.exists_mem_of_length_pos hl
      obtain ⟨y0, y1, y2⟩ := ((tried_rts d p).2 y).mp hy
      obtain ⟨x, rfl⟩ := Int.eq_ofNat_of_zero_le y0
      refine ⟨x, by omega, ?_⟩
      have e : ((x : Int) * (x : Int)) % (p : Int) = d % (p : Int) := Int.emod_eq_emod_iff_emod_sub_eq_zero.mpr (Int.emod_eq_zero_of_dvd y2)
      rw [← Int.natCast_mul, ← Int.natCast_emod] at e
      omega
  by_cases z : 0 < (tried d (p : Int) p).length
  · rw [decide_eq_true z]
    exact eu.mpr (key.mpr z)
  · rw [decide_eq_false z]
    cases e : resM (d % (p : Int)).toNat p with
    | false => rfl
    | true => exact absurd (key.mp (eu.mp e)) z
theorem in_ints {P : Int → Prop} {v : V} {ns : List Int} (h : v ∈ ns.map V.int) (hp : ∀ n ∈ ns, P n) : ∃ n : Int, v = .int n ∧ P n := by
  obtain ⟨n, hn, rfl⟩ := List.mem_map.mp h
  exact ⟨n, rfl, hp n hn⟩

/-! ### the moduli of the law -/
def oddPs : List Nat := [3, 5, 7, 11, 13, 17, 101, 193, 1009, 4099, 10007]
theorem tb1 : ([3, 5, 7, 11, 13, 17, 101, 193, 1009] : List Nat).all chkP = true := by decide +kernel
theorem tb2 : chkP 4099 = true := by decide +kernel
theorem tb3 : chkP 10007 = true := by decide +kernel
theorem oddP_ok {p : Nat} (h : p ∈ oddPs) : PrimeOk p := by
  have e : oddPs = [3, 5, 7, 11, 13, 17, 101, 193, 1009] ++ [4099, 10007] := rfl
  rw [e] at h
  rcases List.mem_append.mp h with h | h
  · exact primeOk_of (List.all_eq_true.mp tb1 p h)
  · simp only [List.mem_cons, List.not_mem_nil, or_false] at h
    rcases h with rfl | rfl
    · exact primeOk_of tb2
    · exact primeOk_of tb3
def facT : Nat → List (Nat × Nat) → Bool
  | _, [] => true
  | acc, (p, k) :: r => (p.beq 2 || oddPs.contains p) && Nat.ble 1 k && Nat.ble k 48 && Nat.ble (p ^ k) 100000000 && (Nat.gcd acc (p ^ k)).beq 1 && facT (acc * p ^ k) r
theorem facT_ok : ∀ {l : List (Nat × Nat)} {acc : Nat}, facT acc l = true → FacP acc l
  | [], _, _ => trivial
  | (p, k) :: r, acc, h => by
    unfold facT at h
    simp only [Bool.and_eq_true, Bool.or_eq_true] at h
    obtain ⟨⟨⟨⟨⟨h1, h2⟩, h3⟩, h4⟩, h5⟩, h6⟩ := h
    refine ⟨?_, Nat.le_of_ble_eq_true h2, Nat.lt_succ_of_le (Nat.le_of_ble_eq_true h3), Nat.le_of_ble_eq_true h4, Nat.eq_of_beq_eq_true h5, facT_ok h6⟩
    rcases h1 with z | z
    · exact .inl (Nat.eq_of_beq_eq_true z)
    · exact .inr (oddP_ok (List.contains_iff_mem.mp z))
def facQ (m : Nat) : Bool := match ppM m with
  | none => false
  | some l => (prodP l).beq m && facT 1 l && Nat.ble (lenP l) 16000000
theorem facQ_ok {m : Nat} (h : facQ m = true) : ∃ l, FacOk m l := by
  unfold facQ at h
  cases hp : ppM m with
  | none =>
    rw [hp] at h
    cases h
  | some l =>
    rw [hp] at h
    dsimp only at h
    rw [Bool.and_eq_true, Bool.and_eq_true] at h
    obtain ⟨⟨h2, h3⟩, h4⟩ := h
    exact ⟨l, hp, Nat.eq_of_beq_eq_true h2, facT_ok h3, Nat.le_of_ble_eq_true h4⟩
def rowsK : List (List Nat) := [[4, 8, 16, 64, 2, 32], [3, 9, 27, 81], [5, 25, 125], [7, 49, 11, 121], [13, 17, 169, 101, 193, 1009, 4099, 10007]]
/-- every product that the law may make of the rows that are left -/
def allM : List (List Nat) → Nat → Bool
  | [], m => facQ m
  | row :: rows, m => allM rows m && row.all fun q => bif Nat.ble (m * q) 100000000 then (Nat.gcd m q).beq 1 && allM rows (m * q) else true
theorem allM_1 : allM (rowsK.drop 1) 1 = true := by decide +kernel
theorem allM_4 : allM (rowsK.drop 1) 4 = true := by decide +kernel
theorem allM_8 : allM (rowsK.drop 1) 8 = true := by decide +kernel
theorem allM_16 : allM (rowsK.drop 1) 16 = true := by decide +kernel
theorem allM_64 : allM (rowsK.drop 1) 64 = true := by decide +kernel
theorem allM_2 : allM (rowsK.drop 1) 2 = true := by decide +kernel
theorem allM_32 : allM (rowsK.drop 1) 32 = true := by decide +kernel
theorem allM_ok : allM rowsK 1 = true := by
  have e : rowsK = [4, 8, 16, 64, 2, 32] :: rowsK.drop 1 := rfl
  rw [e]
  unfold allM
  rw [allM_1, Bool.true_and]
  simp only [List.all_cons, List.all_nil, Nat.one_mul, Bool.and_true]
  rw [allM_4, allM_8, allM_16, allM_64, allM_2, allM_32]
  rfl
/-- parts without common measures -/
def CopL : Nat → List Nat → Prop
  | _, [] => True
  | acc, q :: r => Nat.gcd acc q = 1 ∧ 0 < q ∧ q ≤ 10007 ∧ CopL (acc * q) r
theorem CopL.snoc : ∀ {ps : List Nat} {acc q : Nat}, CopL acc ps → Nat.gcd (ps.foldl (· * ·) acc) q = 1 → 0 < q → q ≤ 10007 → CopL acc (ps ++ [q])
  | [], acc, q, _, h1, h2, h3 => ⟨h1, h2, h3, trivial⟩
  | x :: r, acc, q, h, h1, h2, h3 => ⟨h.1, h.2.1, h.2.2.1, h.2.2.2.snoc h1 h2 h3⟩
theorem foldl_snoc (ps : List Nat) (acc q : Nat) : (ps ++ [q]).foldl (· * ·) acc = ps.foldl (· * ·) acc * q := by rw [List.foldl_append]; rfl
theorem row_len {i : Nat} (h : i < 5) : ∃ row, rowsK[i]? = some row ∧ 0 < row.length ∧ row.length ≤ 8 ∧ ∀ q ∈ row, 0 < q ∧ q ≤ 10007 := by
  match i, h with
  | 0, _ => exact ⟨_, rfl, by decide⟩
  | 1, _ => exact ⟨_, rfl, by decide⟩
  | 2, _ => exact ⟨_, rfl, by decide⟩
  | 3, _ => exact ⟨_, rfl, by decide⟩
  | 4, _ => exact ⟨_, rfl, by decide⟩
theorem allM_skip {i m : Nat} {row : List Nat} (hr : rowsK[i]? = some row) (h : allM (rowsK.drop i) m = true) : allM (rowsK.drop (i + 1)) m = true := by
  obtain ⟨hi, e⟩ := List.getElem?_eq_some_iff.mp hr
  rw [List.drop_eq_getElem_cons hi] at h
  unfold allM at h
  rw [Bool.and_eq_true] at h
  exact h.1
theorem allM_take {i m q : Nat} {row : List Nat} (hr : rowsK[i]? = some row) (h : allM (rowsK.drop i) m = true) (hq : q ∈ row) (hm : m * q ≤ 100000000) : Nat.gcd m q = 1 ∧ allM (rowsK.drop (i + 1)) (m * q) = true := by
  obtain ⟨hi, e⟩ := List.getElem?_eq_some_iff.mp hr
  rw [List.drop_eq_getElem_cons hi, e] at h
  unfold allM at h
  rw [Bool.and_eq_true] at h
  have h2 := List.all_eq_true.mp h.2 q hq
  rw [bifT (bleT hm), Bool.and_eq_true] at h2
  exact ⟨Nat.eq_of_beq_eq_true h2.1, h2.2⟩
/-- the rows of the law: five lists -/
def RowsAt (H : Hp) (rs : List Addr) : Prop := rs.length = 5 ∧ ∀ (i : Nat) (o : Addr) (row : List Nat), rs[i]? = some o → rowsK[i]? = some row → H o = some (.lst (row.map fun (n : Nat) => V.int (n : Int)))
theorem mem_inV {n : Int} {ns : List Int} (h : n ∈ ns) : inV (.int n) (ns.map V.int) = true := by
  unfold inV
  rw [List.any_eq_true]
  exact ⟨.int n, List.mem_map.mpr ⟨n, h, rfl⟩, by simp [eqV]⟩
theorem flat_ints : ∀ ns : List Int, (ns.map V.int).all flatV = true
  | [] => rfl
  | n :: r => by rw [List.map_cons, List.all_cons, flat_ints r]; rfl
theorem strict {ns : List Int} (nd : ns.Nodup) (h : ns.Pairwise (· ≤ ·)) : ns.Pairwise (· < ·) := by
  have h2 : ns.Pairwise (fun a b => a ≠ b ∧ a ≤ b) := List.Pairwise.and nd h
  exact h2.imp fun ⟨a, b⟩ => by omega
section
variable {P : Program} {w : World} {K : PySem.W.Frag} {mg : Str → Option Value} {base : Heap} {fa : Nat → Addr} {fd : Nat → FuncData}
def spBezout (_ : PySem.W.Frag) : Sp := fun vs H Q _ => ∃ a b : Int, vs = [.int a, .int b] ∧ a.natAbs < 2 ^ 9400 ∧ b.natAbs < 2 ^ 8990 ∧
  ∀ p u v, H p = none → u * a + v * b = gI a b → u.natAbs < 2 ^ 9404 → v.natAbs < 2 ^ 9404 → Q (.ref p) (upd H p (.tup [.int (gI a b), .int u, .int v]))
theorem okBezout (T : Txt K mg fa fd) : FnOk P w K mg base CX0 1 (fa 0) (fd 0) ["a", "b"] (spBezout K) := by
  refine T.F_bezout.ok scBezout (fun vs H Q E h => ?_) (fun cdv A outer s H vs Q E hr h => ?_)
  · obtain ⟨a, b, rfl, ha, hb, q⟩ := h
    rfl
  · obtain ⟨a, b, rfl, ha, hb, q⟩ := h
    refine ⟨_, (pss_cons (ps_par3 (i := 2) (j := 3) (l := 4) (by rfl) scBezout.nd rfl rfl rfl (by decide) (by decide) (by decide) rfl rfl rfl (pa_cons (pv 0) (pa_cons pe_int (pa_cons pe_int pa_nil))) (by rfl))
      (pss_cons (ps_par3 (i := 5) (j := 6) (l := 7) (by rfl) scBezout.nd rfl rfl rfl (by decide) (by decide) (by decide) rfl rfl rfl (pa_cons (pv 1) (pa_cons pe_int (pa_cons pe_int pa_nil))) (by rfl))
      (pss_cons (ps_while PassesOwn.never (pt_cmp (pc_neI (pv 5) pe_int))
      (pss_cons (ps_set (i := 8) scBezout.nd rfl (Or.inl rfl) (pe_op op_fdivX (pv 2) (pv 5)))
        (pss_cons (ps_par (i := 2) (j := 5) (by rfl) scBezout.nd rfl rfl (by decide) rfl rfl (pa_cons (pv 5) (pa_cons (pe_op op_sub (pv 2) (pe_op op_mulW (pv 8) (pv 5))) pa_nil)) (by rfl))
        (pss_cons (ps_par (i := 3) (j := 6) (by rfl) scBezout.nd rfl rfl (by decide) rfl rfl (pa_cons (pv 6) (pa_cons (pe_op op_sub (pv 3) (pe_op op_mulW (pv 8) (pv 6))) pa_nil)) (by rfl))
        (pss_one (ps_par (i := 4) (j := 7) (by rfl) scBezout.nd rfl rfl (by decide) rfl rfl (pa_cons (pv 7) (pa_cons (pe_op op_sub (pv 4) (pe_op op_mulW (pv 8) (pv 7))) pa_nil)) (by rfl)))))))
      (pss_cons (ps_if (pt_cmp (pc_lt (pv 2) pe_int))
      (pss_one (ps_ret (pe_tup (pa_cons (pe_un un_neg (pv 2)) (pa_cons (pe_un un_neg (pv 3)) (pa_cons (pe_un un_neg (pv 4)) pa_nil))))))
      pss_nil)
      (pss_one (ps_ret (pe_tup (pa_cons (pv 2) (pa_cons (pv 3) (pa_cons (pv 4) pa_nil)))))))))), ?_⟩
    refine ⟨_, rfl, _, _, _, rfl, _, rfl, _, _, _, rfl, ?_⟩
    refine ⟨fun m σ H' => ∃ (g u v r ru rv : Int) (x8 : Option V), σ = [some (.int a), some (.int b), some (.int g), some (.int u), some (.int v), some (.int r), some (.int ru), some (.int rv), x8] ∧ m = r.natAbs ∧ H' = H ∧ Bz a b g u v r ru rv,
      ⟨_, a, 1, 0, b, 0, 1, none, rfl, rfl, rfl, by omega, by omega, ⟨rfl, by omega, by omega⟩, .inl ⟨rfl, rfl, rfl, rfl, rfl, rfl⟩⟩, ?_⟩
    rintro m σ H' ⟨g, u, v, r, ru, rv, x8, rfl, rfl, rfl, hz⟩
    refine ⟨_, rfl, _, _, rfl, rfl, _, rfl, wayN2 (fun hr => ?_) (fun hr => ?_)⟩
    · obtain ⟨s1, s2, s3, s4⟩ := hz.size hr
      have up : (2 : Nat) ^ 8990 ≤ 2 ^ 9400 := Nat.pow_le_pow_right (by decide) (by decide)
      have e4 : (2 : Nat) ^ 9404 = 2 ^ 9400 * 16 := Nat.pow_add 2 9400 4
      have q1 : (g.fdiv r).natAbs < 2 ^ 9404 := by omega
      have q2 : r.natAbs < 2 ^ 9000 := pow_up (Nat.lt_of_le_of_lt s2 hb) (by decide)
      have q3 : ru.natAbs < 2 ^ 9404 := by omega
      have q4 : rv.natAbs < 2 ^ 9404 := by omega
      refine ⟨fun σ' H2 => ∃ (g' u' v' r' ru' rv' : Int) (x8 : Option V), σ' = [some (.int a), some (.int b), some (.int g'), some (.int u'), some (.int v'), some (.int r'), some (.int ru'), some (.int rv'), x8] ∧ r'.natAbs < r.natAbs ∧ H2 = H' ∧ Bz a b g' u' v' r' ru' rv', ?_, ?_⟩
      · rintro σ' H2 ⟨g', u', v', r', ru', rv', x8', rfl, hl, rfl, hz'⟩
        exact ⟨_, hl, g', u', v', r', ru', rv', x8', rfl, rfl, rfl, hz'⟩
      · refine ⟨_, rfl, _, rfl, _, _, rfl, rfl, ⟨hr, q2⟩, ?_⟩
        refine ⟨_, rfl, _, rfl, _, rfl, _, rfl, _, _, rfl, rfl, wide_mul q1 q2 (by decide) (by decide) (by decide), _, _, rfl, rfl, _, _, rfl, ?_⟩
        refine ⟨_, rfl, _, rfl, _, rfl, _, rfl, _, _, rfl, rfl, wide_mul q1 q3 (by decide) (by decide) (by decide), _, _, rfl, rfl, _, _, rfl, ?_⟩
        refine ⟨_, rfl, _, rfl, _, rfl, _, rfl, _, _, rfl, rfl, wide_mul q1 q4 (by decide) (by decide) (by decide), _, _, rfl, rfl, _, _, rfl, ?_⟩
        exact ⟨_, _, _, _, _, _, _, rfl, (fd_rest hr).1, rfl, hz.step hr⟩
    · subst hr
      obtain ⟨h1, h2, ⟨h3, hu, hv⟩, h4⟩ := hz
      have up : (2 : Nat) ^ 8990 ≤ 2 ^ 9400 := Nat.pow_le_pow_right (by decide) (by decide)
      have e4 : (2 : Nat) ^ 9404 = 2 ^ 9400 * 16 := Nat.pow_add 2 9400 4
      have hg : ((g.natAbs : Nat) : Int) = gI a b := by
        rw [← h3]
        simp
      refine ⟨_, rfl, _, _, rfl, rfl, _, rfl, way2 (fun hn => ?_) (fun hn => ?_)⟩
      · refine ⟨_, rfl, _, rfl, _, rfl, _, rfl, _, rfl, _, rfl, by show 3 ≤ sizeLine; decide, fun p hp => ?_⟩
        have eg : -g = gI a b := by omega
        have k := q p (-u) (-v) hp (by rw [Int.neg_mul, Int.neg_mul]; omega) (by omega) (by omega)
        rw [← eg] at k
        exact k
      · refine ⟨_, rfl, _, rfl, _, rfl, by show 3 ≤ sizeLine; decide, fun p hp => ?_⟩
        have eg : g = gI a b := by omega
        have k := q p u v hp (by omega) (by omega) (by omega)
        rw [← eg] at k
        exact k
def spPower (_ : PySem.W.Frag) : Sp := fun vs H Q _ => ∃ b n : Nat, vs = [.int (b : Int), .int (n : Int)] ∧ b < 2 ^ 64 ∧ n < 2 ^ 60 ∧ Q (.int ((b ^ n : Nat) : Int)) H
theorem okPower (T : Txt K mg fa fd) : FnOk P w K mg base CX0 1 (fa 1) (fd 1) ["base", "many"] (spPower K) := by
  refine T.F_power.ok scPower (fun vs H Q E h => ?_) (fun cdv A outer s H vs Q E hr h => ?_)
  · obtain ⟨b, n, rfl, hb, hn, q⟩ := h
    rfl
  · obtain ⟨b, n, rfl, hb, hn, q⟩ := h
    refine ⟨_, (pss_cons (ps_set (i := 2) scPower.nd rfl (Or.inl rfl) pe_int)
      (pss_cons (ps_for PassesOwn.never rfl (pi_range1 (by rfl) T.m_range (pa_cons (pv 1) pa_nil)) (pg_name (i := 3) scPower.nd rfl (Or.inl rfl))
      (pss_one (ps_set (i := 2) scPower.nd rfl (Or.inl rfl) (pe_op mulNN (pv 2) (pv 0)))))
      (pss_one (ps_ret (pv 2))))), ?_⟩
    have hn' : n < 1152921504606846976 := hn
    refine ⟨_, rfl, _, rfl, by omega, by omega, ?_⟩
    have e : ((n : Nat) : Int).toNat = n := rfl
    rw [e]
    refine for_range (lo := 0) (n := n) (fun i σ H' => ∃ x3, σ = [some (.int (b : Int)), some (.int (n : Int)), some (.int ((b ^ i : Nat) : Int)), x3] ∧ H' = H) ⟨none, rfl, rfl⟩ (fun i σ H' hi ⟨x3, e1, e2⟩ => ?_) (fun σ H' ⟨x3, e1, e2⟩ => ?_)
    · subst e1 e2
      exact ⟨_, rfl, _, rfl, b ^ i, b, rfl, rfl, .inr hb, _, rfl, rfl⟩
    · subst e1 e2
      exact ⟨_, rfl, q⟩
def spPowerModulo (_ : PySem.W.Frag) : Sp := fun vs H Q _ => ∃ (z : Int) (b e m : Nat), vs = [.int z, .int (e : Int), .int (m : Int)] ∧ 0 < m ∧ m < 2 ^ 64 ∧ e < 2 ^ 64 ∧ z % (m : Int) = ((b % m : Nat) : Int) ∧ Q (.int ((pmod b e m : Nat) : Int)) H
theorem okPowerModulo (T : Txt K mg fa fd) : FnOk P w K mg base CX0 1 (fa 2) (fd 2) ["base", "many", "modulus"] (spPowerModulo K) := by
  refine T.F_power_modulo.ok scPowerModulo (fun vs H Q E h => ?_) (fun cdv A outer s H vs Q E hr h => ?_)
  · obtain ⟨z, b, e, m, rfl, m0, m1, e1, hz, q⟩ := h
    rfl
  · obtain ⟨z, b, e, m, rfl, m0, m1, e1, hz, q⟩ := h
    refine ⟨_, (pss_cons (ps_set (i := 3) scPowerModulo.nd rfl (Or.inl rfl) pe_int)
      (pss_cons (ps_set (i := 4) scPowerModulo.nd rfl (Or.inl rfl) (pe_op op_mod (pv 0) (pv 2)))
      (pss_cons (ps_while PassesOwn.never (pt_cmp (pc_gt (pv 1) pe_int))
      (C8.pss_cut (ps_if (pt_cmp (pc_eqI (pe_op modNN (pv 1) pe_int) pe_int))
        (pss_one (ps_set (i := 3) scPowerModulo.nd rfl (Or.inl rfl) (pe_op modNN (pe_op mulNN (pv 3) (pv 4)) (pv 2))))
        pss_nil)
        (pss_cons (ps_set (i := 4) scPowerModulo.nd rfl (Or.inl rfl) (pe_op modNN (pe_op mulNN (pv 4) (pv 4)) (pv 2)))
        (pss_one (ps_set (i := 1) scPowerModulo.nd rfl (Or.inl rfl) (pe_op divNN (pv 1) pe_int))))))
      (pss_one (ps_ret (pv 3)))))), ?_⟩
    refine ⟨_, rfl, _, rfl, _, _, rfl, rfl, by show (0 : Int) < (m : Int); omega, ?_⟩
    dsimp only
    rw [hz]
    refine ⟨fun t σ H' => ∃ (f r s k : Nat), σ = [some (.int z), some (.int (k : Int)), some (.int (m : Int)), some (.int (r : Int)), some (.int (s : Int))] ∧ t = k ∧ H' = H ∧ k < 2 ^ f ∧ s < m ∧ pmL m f r s k = pmod b e m,
      ⟨_, 64, 1, b % m, e, rfl, rfl, rfl, e1, Nat.mod_lt _ m0, rfl⟩, ?_⟩
    rintro t σ H' ⟨f, r, s, k, rfl, rfl, rfl, hk, hs, hr⟩
    refine ⟨_, rfl, _, _, rfl, rfl, _, rfl, way2 (fun h => ?_) (fun h => ?_)⟩
    · have k0 : t ≠ 0 := by omega
      obtain ⟨g, rfl⟩ : ∃ g, f = g + 1 := ⟨f - 1, by
        cases f with
        | zero => rw [Nat.pow_zero] at hk; omega
        | succ g => omega⟩
      unfold pmL at hr
      rw [bifF (beqF k0)] at hr
      have s64 : s < 2 ^ 64 := Nat.lt_trans hs m1
      refine ⟨fun σ' H2 => ∃ (f r s k : Nat), σ' = [some (.int z), some (.int (k : Int)), some (.int (m : Int)), some (.int (r : Int)), some (.int (s : Int))] ∧ k < t ∧ H2 = H' ∧ k < 2 ^ f ∧ s < m ∧ pmL m f r s k = pmod b e m, ?_, ?_⟩
      · rintro σ' H2 ⟨f, r, s, k, e1, e2, e3, e4⟩
        exact ⟨k, e2, f, r, s, k, e1, rfl, e3, e4⟩
      · refine ⟨fun σ' H2 => σ' = [some (.int z), some (.int (t : Int)), some (.int (m : Int)), some (.int ((bif (t % 2).beq 1 then r * s % m else r : Nat) : Int)), some (.int (s : Int))] ∧ H2 = H', ?_, ?_⟩
        · refine ⟨_, rfl, t, 2, rfl, rfl, by decide, _, _, rfl, rfl, _, rfl, way2 (fun h2 => ?_) (fun h2 => ?_)⟩
          · have e2 : t % 2 = 1 := by omega
            rw [bifT (beqT e2)]
            exact ⟨_, rfl, _, rfl, r, s, rfl, rfl, .inr s64, _, rfl, r * s, m, rfl, rfl, m0, rfl, rfl⟩
          · have e2 : t % 2 ≠ 1 := by omega
            rw [bifF (beqF e2)]
            exact ⟨rfl, rfl⟩
        · rintro σ' H2 ⟨rfl, rfl⟩
          refine ⟨_, rfl, _, rfl, s, s, rfl, rfl, .inr s64, _, rfl, s * s, m, rfl, rfl, m0, ?_⟩
          refine ⟨_, rfl, t, 2, rfl, rfl, div9 (by decide) (by decide), g, _, s * s % m, t / 2, rfl, by omega, rfl, ?_, Nat.mod_lt _ m0, hr⟩
          have e3 : (2 : Nat) ^ (g + 1) = 2 ^ g * 2 := Nat.pow_succ _ _
          omega
    · have k0 : t = 0 := by omega
      subst k0
      refine ⟨_, rfl, ?_⟩
      have e2 : pmL m f r s 0 = r := by
        cases f with
        | zero => rfl
        | succ g => rfl
      rw [e2] at hr
      rw [← hr] at q
      exact q
def spTakenOut (_ : PySem.W.Frag) : Sp := fun vs H Q _ => ∃ n p : Nat, vs = [.int (n : Int), .int (p : Int)] ∧ 0 < n ∧ n < 2 ^ 64 ∧ 2 ≤ p ∧ p < 2 ^ 64 ∧
  ∀ t, H t = none → Q (.ref t) (upd H t (.tup [.int ((takenOut n p).1 : Int), .int ((takenOut n p).2 : Int)]))
theorem okTakenOut (T : Txt K mg fa fd) : FnOk P w K mg base CX0 1 (fa 3) (fd 3) ["n", "p"] (spTakenOut K) := by
  refine T.F_taken_out.ok scTakenOut (fun vs H Q E h => ?_) (fun cdv A outer s H vs Q E hr h => ?_)
  · obtain ⟨n, p, rfl, n0, n1, p0, p1, q⟩ := h
    rfl
  · obtain ⟨n, p, rfl, n0, n1, p0, p1, q⟩ := h
    refine ⟨_, (pss_cons (ps_set (i := 2) scTakenOut.nd rfl (Or.inl rfl) pe_int)
      (pss_cons (ps_while PassesOwn.never (pt_cmp (pc_eqI (pe_op modNN (pv 0) (pv 1)) pe_int))
      (pss_cons (ps_set (i := 0) scTakenOut.nd rfl (Or.inl rfl) (pe_op divNN (pv 0) (pv 1)))
        (pss_one (ps_aug (i := 2) scTakenOut.nd rfl (Or.inl rfl) pe_int ip_add))))
      (pss_one (ps_ret (pe_tup (pa_cons (pv 2) (pa_cons (pv 0) pa_nil))))))), ?_⟩
    refine ⟨fun t σ H' => ∃ (f x k : Nat), σ = [some (.int (x : Int)), some (.int (p : Int)), some (.int (k : Int))] ∧ t = x ∧ H' = H ∧ 0 < x ∧ x < 2 ^ f ∧ toL p f x k = takenOut n p,
      ⟨_, 64, n, 0, rfl, rfl, rfl, n0, n1, rfl⟩, ?_⟩
    rintro t σ H' ⟨f, x, k, rfl, rfl, rfl, x0, x1, hr⟩
    refine ⟨_, rfl, _, rfl, t, p, rfl, rfl, by omega, _, _, rfl, rfl, _, rfl, way2 (fun h => ?_) (fun h => ?_)⟩
    · have k0 : t % p = 0 := by omega
      obtain ⟨g, rfl⟩ : ∃ g, f = g + 1 := ⟨f - 1, by
        cases f with
        | zero => rw [Nat.pow_zero] at x1; omega
        | succ g => omega⟩
      unfold toL at hr
      rw [bifT (beqT k0)] at hr
      have hle : p ≤ t := Nat.le_of_dvd x0 (Nat.dvd_of_mod_eq_zero k0)
      have d0 : 0 < t / p := Nat.div_pos hle (by omega)
      have d1 : t / p ≤ t / 2 := Nat.div_le_div_left p0 (by decide)
      refine ⟨fun σ' H2 => ∃ (f x k : Nat), σ' = [some (.int (x : Int)), some (.int (p : Int)), some (.int (k : Int))] ∧ x < t ∧ H2 = H' ∧ 0 < x ∧ x < 2 ^ f ∧ toL p f x k = takenOut n p, ?_, ?_⟩
      · rintro σ' H2 ⟨f, x, k, e1, e2, e3, e4⟩
        exact ⟨x, e2, f, x, k, e1, rfl, e3, e4⟩
      · refine ⟨_, rfl, _, rfl, t, p, rfl, rfl, div9 (by omega) p1, ?_⟩
        refine ⟨_, rfl, _, _, rfl, rfl, g, t / p, k + 1, rfl, by omega, rfl, d0, ?_, hr⟩
        have e3 : (2 : Nat) ^ (g + 1) = 2 ^ g * 2 := Nat.pow_succ _ _
        omega
    · have k0 : t % p ≠ 0 := by omega
      refine ⟨_, rfl, _, rfl, by show 2 ≤ sizeLine; decide, fun u nu => ?_⟩
      have e2 : toL p f t k = (k, t) := by
        cases f with
        | zero => rfl
        | succ g =>
          unfold toL
          rw [bifF (beqF k0)]
      rw [e2] at hr
      rw [← hr] at q
      exact q u nu
def spBehavesAsPrime (_ : PySem.W.Frag) : Sp := fun vs H Q _ => ∃ n b m o : Nat, vs = [.int (n : Int), .int (b : Int), .int (m : Int), .int (o : Int)] ∧ 1 < n ∧ n < 2 ^ 64 ∧ m < 2 ^ 60 ∧ o < 2 ^ 64 ∧ Q (.bl (behaves n b m o)) H
theorem okBehavesAsPrime (T : Txt K mg fa fd) : FnOk P w K mg base CX0 2 (fa 5) (fd 5) ["n", "base", "many", "odd"] (spBehavesAsPrime K) := by
  refine T.F__behaves_as_prime.ok scBehavesAsPrime (fun vs H Q E h => ?_) (fun cdv A outer s H vs Q E hr h => ?_)
  · obtain ⟨n, b, m, o, rfl, n0, n1, m1, o1, q⟩ := h
    rfl
  · obtain ⟨n, b, m, o, rfl, n0, n1, m1, o1, q⟩ := h
    refine ⟨_, (pss_cons (ps_set (i := 4) scBehavesAsPrime.nd rfl (Or.inl rfl) (pe_call (okPowerModulo T) hr (by rfl) T.G_power_modulo T.F_power_modulo.kp T.B_power_modulo .nil pass0 (pa_cons (pv 1) (pa_cons (pv 3) (pa_cons (pv 0) pa_nil)))))
      (pss_cons (ps_if (pt_cmp (pc_eqI (pv 4) pe_int))
      (pss_one (ps_ret pe_bl))
      pss_nil)
      (pss_cons (ps_for PassesOwn.never rfl (pi_range1 (by rfl) T.m_range (pa_cons (pv 2) pa_nil)) (pg_name (i := 5) scBehavesAsPrime.nd rfl (Or.inl rfl))
      (pss_cons (ps_if (pt_cmp (pc_eqI (pv 4) (pe_op op_subN (pv 0) pe_int)))
        (pss_one (ps_ret pe_bl))
        pss_nil)
        (pss_one (ps_set (i := 4) scBehavesAsPrime.nd rfl (Or.inl rfl) (pe_op modNN (pe_op mulNN (pv 4) (pv 4)) (pv 0))))))
      (pss_one (ps_ret pe_bl))))), ?_⟩
    have m1' : m < 1152921504606846976 := m1
    refine ⟨_, rfl, _, rfl, _, rfl, (b : Int), b, o, n, rfl, by omega, n1, o1, (Int.natCast_emod b n).symm, ?_⟩
    unfold behaves at q
    refine ⟨_, rfl, _, _, rfl, rfl, _, rfl, way2 (fun h => ?_) (fun h => ?_)⟩
    · have e : pmod b o n = 1 := by omega
      rw [bifT (beqT e)] at q
      exact q
    · have e : pmod b o n ≠ 1 := by omega
      rw [bifF (beqF e)] at q
      refine ⟨_, rfl, _, rfl, by omega, by omega, ?_⟩
      have em : ((m : Nat) : Int).toNat = m := rfl
      rw [em]
      generalize hR : behL n m (pmod b o n) = R at q
      refine for_range (lo := 0) (n := m) (fun i σ H' => ∃ (x : Nat) (x5 : Option V), σ = [some (.int (n : Int)), some (.int (b : Int)), some (.int (m : Int)), some (.int (o : Int)), some (.int (x : Int)), x5] ∧ H' = H ∧ i ≤ m ∧ x < n ∧ behL n (m - i) x = R)
        ⟨pmod b o n, none, rfl, rfl, Nat.zero_le _, pmod_lt n0, hR⟩ (fun i σ H' hi ⟨x, x5, e1, e2, e3, e4, e5⟩ => ?_) (fun σ H' ⟨x, x5, e1, e2, e3, e4, e5⟩ => ?_)
      · subst e1 e2
        obtain ⟨g, hg⟩ : ∃ g, m - i = g + 1 := ⟨m - i - 1, by omega⟩
        rw [hg] at e5
        unfold behL at e5
        refine ⟨_, rfl, _, rfl, n, 1, rfl, rfl, by omega, _, _, rfl, rfl, _, rfl, way2 (fun h => ?_) (fun h => ?_)⟩
        · have ex : x = n - 1 := by omega
          rw [bifT (beqT ex)] at e5
          rw [← e5] at q
          exact q
        · have ex : x ≠ n - 1 := by omega
          rw [bifF (beqF ex)] at e5
          have eg : m - (i + 1) = g := by omega
          refine ⟨_, rfl, _, rfl, x, x, rfl, rfl, .inl (Nat.lt_trans e4 n1), _, rfl, x * x, n, rfl, rfl, by omega, x * x % n, _, rfl, rfl, by omega, Nat.mod_lt _ (by omega), ?_⟩
          rw [eg]
          exact e5
      · subst e1 e2
        rw [Nat.sub_self] at e5
        unfold behL at e5
        rw [← e5] at q
        exact q
def spIsPrime (_ : PySem.W.Frag) : Sp := fun vs H Q _ => ∃ n : Nat, vs = [.int (n : Int)] ∧ n < 2 ^ 60 ∧ ∀ H', Same H H' → Q (.bl (isPrimeM n)) H'
theorem byW_app (n : Nat) : ∀ (xs ys : List Nat), byW n xs = none → byW n (xs ++ ys) = byW n ys
  | [], _, _ => rfl
  | p :: r, ys, h => by
    unfold byW at h
    show byW n (p :: (r ++ ys)) = _
    rw [byW]
    cases e : (n % p).beq 0 with
    | true =>
      rw [e] at h
      cases h
    | false =>
      rw [e] at h
      exact byW_app n r ys h
theorem toL_fst {p : Nat} : ∀ {f n k : Nat}, (toL p f n k).1 ≤ k + f
  | 0, n, k => Nat.le_refl _
  | f + 1, n, k => by
    unfold toL
    cases (n % p).beq 0 with
    | true =>
      have h := toL_fst (p := p) (f := f) (n := n / p) (k := k + 1)
      show (toL p f (n / p) (k + 1)).1 ≤ k + (f + 1)
      omega
    | false => show k ≤ k + (f + 1); omega
theorem okIsPrime (T : Txt K mg fa fd) : FnOk P w K mg base CX0 3 (fa 4) (fd 4) ["n"] (spIsPrime K) := by
  refine T.F_is_prime.ok scIsPrime (fun vs H Q E h => ?_) (fun cdv A outer s H vs Q E hr h => ?_)
  · obtain ⟨n, rfl, n1, q⟩ := h
    rfl
  · obtain ⟨n, rfl, n1, q⟩ := h
    refine ⟨_, (pss_cons (ps_if (pt_cmp (pc_lt (pv 0) pe_int))
      (pss_one (ps_ret pe_bl))
      pss_nil)
      (pss_cons (ps_for PassesOwn.never rfl (piT K (pe_glob (v := .ref (fa 28)) (by rfl) T.g_WITNESSES rfl)) (pg_name (i := 1) scIsPrime.nd rfl (Or.inl rfl))
      (pss_one (ps_if (pt_cmp (pc_eqI (pe_op modNN (pv 0) (pv 1)) pe_int))
        (pss_one (ps_ret (pe_cmp (pc_eqI (pv 0) (pv 1)))))
        pss_nil)))
      (pss_cons (ps_asg (pe_call (okTakenOut T) (hr.mono (by decide)) (by rfl) T.G_taken_out T.F_taken_out.kp T.B_taken_out .nil pass0 (pa_cons (pe_op op_subN (pv 0) pe_int) (pa_cons pe_int pa_nil))) (pg_tup (by rfl) (pgs_cons (pg_name (i := 2) scIsPrime.nd rfl (Or.inl rfl)) (pgs_cons (pg_name (i := 3) scIsPrime.nd rfl (Or.inl rfl)) pgs_nil))))
      (pss_cons (ps_for PassesOwn.never rfl (piT K (pe_glob (v := .ref (fa 28)) (by rfl) T.g_WITNESSES rfl)) (pg_name (i := 4) scIsPrime.nd rfl (Or.inl rfl))
      (pss_one (ps_if (pt_not (pt_val (pe_call (okBehavesAsPrime T) hr (by rfl) T.G__behaves_as_prime T.F__behaves_as_prime.kp T.B__behaves_as_prime .nil pass0 (pa_cons (pv 0) (pa_cons (pv 4) (pa_cons (pv 2) (pa_cons (pv 3) pa_nil)))))))
        (pss_one (ps_ret pe_bl))
        pss_nil)))
      (pss_one (ps_ret pe_bl)))))), ?_⟩
    have n1' : n < 1152921504606846976 := n1
    have n64 : n < 2 ^ 64 := Nat.lt_trans n1 (by decide)
    unfold isPrimeM at q
    refine ⟨_, rfl, _, _, rfl, rfl, _, rfl, way2 (fun h => ?_) (fun h => ?_)⟩
    · have e : n ≤ 1 := by omega
      rw [bifT (bleT e)] at q
      exact q H (Same.refl H)
    · have e : ¬ n ≤ 1 := by omega
      rw [bifF (bleF e)] at q
      have hW := T.S_WITNESSES
      refine ⟨_, rfl, ⟨_, hW H⟩, for_tup (K := K) (xs := (wits.map fun (x : Nat) => V.int (x : Int))) (fun i σ H' => ∃ x1, σ = [some (.int (n : Int)), x1, none, none, none] ∧ H' = H ∧ byW n (wits.take i) = none) ⟨none, rfl, rfl, rfl⟩ (fun i σ H' hi ⟨x1, e1, e2, e3⟩ => hW H') (fun i x σ H' hx ⟨x1, e1, e2, e3⟩ => ?_) (fun σ H' ⟨x1, e1, e2, e3⟩ => ?_)⟩
      · subst e1 e2
        rw [List.getElem?_map] at hx
        cases hn : wits[i]? with
        | none =>
          rw [hn] at hx
          cases hx
        | some p =>
          rw [hn] at hx
          cases hx
          have pw : p ∈ wits := List.mem_of_getElem? hn
          have p0 : 0 < p := (by decide : ∀ x ∈ wits, 0 < x) p pw
          have tk : wits.take (i + 1) = wits.take i ++ [p] := by
            rw [List.take_add_one, hn]
            rfl
          refine ⟨_, rfl, _, rfl, n, p, rfl, rfl, p0, _, _, rfl, rfl, _, rfl, way2 (fun h2 => ?_) (fun h2 => ?_)⟩
          · have e4 : n % p = 0 := by omega
            have e5 : byW n wits = some (n.beq p) := by
              have sp : wits = wits.take i ++ (p :: wits.drop (i + 1)) := by
                have h5 := List.getElem?_eq_some_iff.mp hn
                obtain ⟨h6, h7⟩ := h5
                rw [← h7, ← List.drop_eq_getElem_cons h6, List.take_append_drop]
              rw [sp, byW_app _ _ _ e3, byW, bifT (beqT e4)]
            rw [e5] at q
            refine ⟨_, rfl, _, rfl, _, _, rfl, rfl, ?_⟩
            have e6 : decide ((n : Int) = (p : Int)) = n.beq p := by
              by_cases z : n = p
              · rw [decide_eq_true (by omega), beqT z]
              · rw [decide_eq_false (by omega), beqF z]
            dsimp only
            rw [e6]
            exact q _ (Same.refl _)
          · have e4 : n % p ≠ 0 := by omega
            refine ⟨_, rfl, rfl, ?_⟩
            rw [tk, byW_app _ _ _ e3, byW, bifF (beqF e4)]
            rfl
      · subst e1 e2
        have e5 : byW n wits = none := by
          rw [List.length_map, List.take_length] at e3
          exact e3
        rw [e5] at q
        have z1 : 0 < n - 1 := by omega
        refine ⟨_, rfl, n, 1, rfl, rfl, by omega, n - 1, 2, rfl, z1, by omega, by decide, by decide, fun t nt => ?_⟩
        have od := toL_pos (p := 2) (by decide) (f := 64) (k := 0) z1
        have mn := toL_fst (p := 2) (f := 64) (n := n - 1) (k := 0)
        change 0 < (takenOut (n - 1) 2).2 ∧ (takenOut (n - 1) 2).2 ≤ n - 1 at od
        change (takenOut (n - 1) 2).1 ≤ 0 + 64 at mn
        refine ⟨t, _, rfl, SqT.of upd_same, rfl, _, _, rfl, _, _, rfl, rfl, ?_⟩
        generalize hf : (fun b => behaves n b (takenOut (n - 1) 2).1 (takenOut (n - 1) 2).2) = f at q
        have hf2 : ∀ b, behaves n b (takenOut (n - 1) 2).1 (takenOut (n - 1) 2).2 = f b := fun b => by rw [← hf]
        generalize (takenOut (n - 1) 2).1 = m at hf2 mn ⊢
        generalize (takenOut (n - 1) 2).2 = o at hf2 od ⊢
        have q2 : ∀ H'', Q (.bl (wits.all f)) H'' → True := fun _ _ => trivial
        refine ⟨_, rfl, ⟨_, hW _⟩, for_tup (K := K) (xs := (wits.map fun (x : Nat) => V.int (x : Int))) (fun i σ H2 => ∃ x4, σ = [some (.int (n : Int)), x1, some (.int (m : Int)), some (.int (o : Int)), x4] ∧ Same H' H2 ∧ (wits.take i).all f = true) ⟨none, rfl, same_upd nt, rfl⟩ (fun i σ H2 hi ⟨x4, e1, e2, e3⟩ => hW H2) (fun i x σ H2 hx ⟨x4, e1, e2, e6⟩ => ?_) (fun σ H2 ⟨x4, e1, e2, e6⟩ => ?_)⟩
        · subst e1
          rw [List.getElem?_map] at hx
          cases hn : wits[i]? with
          | none =>
            rw [hn] at hx
            cases hx
          | some b =>
            rw [hn] at hx
            cases hx
            have tk : wits.take (i + 1) = wits.take i ++ [b] := by
              rw [List.take_add_one, hn]
              rfl
            refine ⟨_, rfl, _, rfl, _, rfl, _, rfl, n, b, m, o, rfl, by omega, n64, Nat.lt_of_le_of_lt mn (by decide), by omega, _, rfl, ?_⟩
            rw [hf2]
            cases hb : f b with
            | false =>
              refine iteT ?_
              have e7 : wits.all f = false := by
                rw [Bool.eq_false_iff]
                intro z
                have z2 := List.all_eq_true.mp z b (List.mem_of_getElem? hn)
                rw [hb] at z2
                cases z2
              rw [e7] at q
              exact q H2 e2
            | true =>
              refine iteF ⟨_, rfl, e2, ?_⟩
              rw [tk, List.all_append, e6, List.all_cons, hb]
              rfl
        · subst e1
          rw [List.length_map, List.take_length] at e6
          rw [e6] at q
          exact q H2 e2
def spLeastMeasure (_ : PySem.W.Frag) : Sp := fun vs H Q _ => ∃ n s q : Nat, vs = [.int (n : Int), .int (s : Int)] ∧ n < 2 ^ 60 ∧ s < 2 ^ 60 ∧ leastM n s = some q ∧ Q (.int (q : Int)) H
theorem PIp_of {X : Cx} {op : Operator} {r : R2} (h : OpR X (inplaceOp op) r) : PIp X op r := h
theorem okLeastMeasure (T : Txt K mg fa fd) : FnOk P w K mg base CX0 1 (fa 7) (fd 7) ["n", "start"] (spLeastMeasure K) := by
  refine T.F__least_measure.ok scLeastMeasure (fun vs H Q E h => ?_) (fun cdv A outer s H vs Q E hr h => ?_)
  · obtain ⟨n, s, q, rfl, n1, s1, hm, Qd⟩ := h
    rfl
  · obtain ⟨n, s, q, rfl, n1, s1, hm, Qd⟩ := h
    refine ⟨_, (pss_cons (ps_if (pt_cmp (pc_eqI (pe_op modNN (pv 0) pe_int) pe_int))
      (pss_one (ps_ret pe_int))
      pss_nil)
      (pss_cons (ps_set (i := 2) scLeastMeasure.nd rfl (Or.inl rfl) (pe_callB (call_max2 rfl) (by rfl) T.m_max (by decide +kernel) (pa_cons pe_int (pa_cons (pv 1) pa_nil))))
      (pss_cons (ps_while PassesOwn.never (pt_cmp (pc_neI (pe_op modNN (pv 0) (pv 2)) pe_int))
      (pss_one (ps_aug (i := 2) scLeastMeasure.nd rfl (Or.inl rfl) pe_int (PIp_of iop_addN))))
      (pss_one (ps_ret (pv 2)))))), ?_⟩
    unfold leastM at hm
    refine ⟨_, rfl, n, 2, rfl, rfl, by decide, _, _, rfl, rfl, _, rfl, way2 (fun h => ?_) (fun h => ?_)⟩
    · have e : n % 2 = 0 := by omega
      rw [bifT (beqT e)] at hm
      cases hm
      exact Qd
    · have e : n % 2 ≠ 0 := by omega
      rw [bifF (beqF e)] at hm
      refine ⟨_, rfl, _, _, rfl, ?_⟩
      have e2 : (if (s : Int) > 3 then (s : Int) else 3) = ((bif s.ble 3 then 3 else s : Nat) : Int) := by
        by_cases z : s ≤ 3
        · rw [bifT (bleT z), if_neg (by omega)]
          rfl
        · rw [bifF (bleF z), if_pos (by omega)]
      dsimp only
      rw [e2]
      have st : (bif s.ble 3 then 3 else s) < 2 ^ 60 ∧ 0 < (bif s.ble 3 then 3 else s) := by
        by_cases z : s ≤ 3
        · rw [bifT (bleT z)]
          exact ⟨by decide, by decide⟩
        · rw [bifF (bleF z)]
          exact ⟨s1, by omega⟩
      generalize (bif s.ble 3 then 3 else s) = x0 at hm st ⊢
      have n1' : n < 1152921504606846976 := n1
      have st1 : x0 < 1152921504606846976 := st.1
      refine ⟨fun t σ H' => ∃ (f x : Nat), σ = [some (.int (n : Int)), some (.int (s : Int)), some (.int (x : Int))] ∧ t = f ∧ H' = H ∧ 0 < x ∧ leastL n f x = some q, ⟨_, n, x0, rfl, rfl, rfl, st.2, hm⟩, ?_⟩
      rintro t σ H' ⟨f, x, rfl, rfl, rfl, x2, hr⟩
      refine ⟨_, rfl, _, rfl, n, x, rfl, rfl, x2, _, _, rfl, rfl, _, rfl, ?_⟩
      obtain ⟨g, rfl⟩ : ∃ g, t = g + 1 := by
        cases t with
        | zero => cases hr
        | succ g => exact ⟨g, rfl⟩
      unfold leastL at hr
      refine wayN2 (fun h => ?_) (fun h => ?_)
      · have k0 : n % x ≠ 0 := by omega
        rw [bifF (beqF k0)] at hr
        refine ⟨fun σ' H2 => σ' = [some (.int (n : Int)), some (.int (s : Int)), some (.int ((x + 2 : Nat) : Int))] ∧ H2 = H', ?_, ?_⟩
        · rintro σ' H2 ⟨e1, e2⟩
          exact ⟨g, by omega, g, x + 2, e1, rfl, e2, by omega, hr⟩
        · exact ⟨_, rfl, x, 2, rfl, rfl, rfl, rfl⟩
      · have k0 : n % x = 0 := by omega
        rw [bifT (beqT k0)] at hr
        cases hr
        exact ⟨_, rfl, Qd⟩
def spPrimeParts (_ : PySem.W.Frag) : Sp := fun vs H Q _ => ∃ (n : Nat) (l : List (Nat × Nat)), vs = [.int (n : Int)] ∧ 0 < n ∧ n < 2 ^ 59 ∧ ppM n = some l ∧
  ∀ H' r as, Same H H' → H r = none → H' r = some (.lst (as.map V.ref)) → Prs H' as (nats l) → as.length ≤ 100 → Q (.ref r) H'
theorem leastL_dvd {n q : Nat} : ∀ {f x : Nat}, 0 < x → leastL n f x = some q → n % q = 0 ∧ x ≤ q
  | 0, x, _, h => by cases h
  | f + 1, x, h0, h => by
    unfold leastL at h
    by_cases e : n % x = 0
    · rw [bifT (beqT e)] at h
      cases h
      exact ⟨e, Nat.le_refl _⟩
    · rw [bifF (beqF e)] at h
      obtain ⟨a, b⟩ := leastL_dvd (by omega) h
      exact ⟨a, by omega⟩
theorem leastM_dvd {n s q : Nat} (h : leastM n s = some q) : n % q = 0 ∧ 2 ≤ q := by
  unfold leastM at h
  by_cases e : n % 2 = 0
  · rw [bifT (beqT e)] at h
    cases h
    exact ⟨e, Nat.le_refl _⟩
  · rw [bifF (beqF e)] at h
    have z : 3 ≤ (bif s.ble 3 then 3 else s) := by
      by_cases y : s ≤ 3
      · rw [bifT (bleT y)]
        exact Nat.le_refl _
      · rw [bifF (bleF y)]
        omega
    obtain ⟨a, b⟩ := leastL_dvd (by omega) h
    exact ⟨a, by omega⟩
theorem okPrimeParts (T : Txt K mg fa fd) : FnOk P w K mg base CX0 4 (fa 6) (fd 6) ["n"] (spPrimeParts K) := by
  refine T.F_prime_parts.ok scPrimeParts (fun vs H Q E h => ?_) (fun cdv A outer s H vs Q E hr h => ?_)
  · obtain ⟨n, l, rfl, n0, n1, hm, q⟩ := h
    rfl
  · obtain ⟨n, l, rfl, n0, n1, hm, q⟩ := h
    refine ⟨_, (pss_cons (ps_set (i := 1) scPrimeParts.nd rfl (Or.inl rfl) (pe_lst pa_nil))
      (pss_cons (ps_set (i := 2) scPrimeParts.nd rfl (Or.inl rfl) (pv 0))
      (pss_cons (ps_set (i := 3) scPrimeParts.nd rfl (Or.inl rfl) pe_int)
      (pss_cons (ps_while PassesOwn.never (pt_cmp (pc_gt (pv 2) pe_int))
      (C8.pss_cut (ps_set (i := 3) scPrimeParts.nd rfl (Or.inl rfl) (pe_ifExp (pt_val (pe_call (okIsPrime T) hr (by rfl) T.G_is_prime T.F_is_prime.kp T.B_is_prime .nil pass0 (pa_cons (pv 2) pa_nil))) (pv 2) (pe_call (okLeastMeasure T) (hr.mono (by decide)) (by rfl) T.G__least_measure T.F__least_measure.kp T.B__least_measure .nil pass0 (pa_cons (pv 2) (pa_cons (pv 3) pa_nil)))))
        (pss_cons (ps_asg (pe_call (okTakenOut T) (hr.mono (by decide)) (by rfl) T.G_taken_out T.F_taken_out.kp T.B_taken_out .nil pass0 (pa_cons (pv 2) (pa_cons (pv 3) pa_nil))) (pg_tup (by rfl) (pgs_cons (pg_name (i := 4) scPrimeParts.nd rfl (Or.inl rfl)) (pgs_cons (pg_name (i := 2) scPrimeParts.nd rfl (Or.inl rfl)) pgs_nil))))
        (pss_one (ps_expr (pe_bm PySem.F.plainAttrs_list PySem.F.slot_list_append PySem.F.type_list_append mt_append (pv 1) (pa_cons (pe_tup (pa_cons (pv 3) (pa_cons (pv 4) pa_nil))) pa_nil)))))))
      (pss_one (ps_ret (pv 1))))))), ?_⟩
    refine ⟨Nat.zero_le _, fun r nr => ?_⟩
    have n1' : n < 576460752303423488 := n1
    refine ⟨_, rfl, fun t σ H' => ∃ (f x p : Nat) (x4 : Option V) (as : List Addr) (done rest : List (Nat × Nat)), σ = [some (.int (n : Int)), some (.ref r), some (.int (x : Int)), some (.int (p : Int)), x4] ∧ t = f ∧ Same H H' ∧ H' r = some (.lst (as.map V.ref)) ∧ Prs H' as (nats done) ∧ 0 < x ∧ x ≤ n ∧ 0 < p ∧ p ≤ n + 2 ∧ done.length + f = 70 ∧ ppL f x p = some rest ∧ l = done ++ rest,
      ⟨70, 70, n, 2, none, [], [], l, rfl, rfl, same_upd nr, upd_same, .nil, n0, Nat.le_refl _, by omega, by omega, rfl, hm, rfl⟩, ?_⟩
    rintro t σ H' ⟨f, x, p, x4, as, done, rest, rfl, rfl, hs, hr, hp, x0, x1, p0, p1, hl, hpp, hll⟩
    obtain ⟨g, rfl⟩ : ∃ g, t = g + 1 := by
      cases t with
      | zero => cases hpp
      | succ g => exact ⟨g, rfl⟩
    unfold ppL at hpp
    refine ⟨_, rfl, _, _, rfl, rfl, _, rfl, way2 (fun h => ?_) (fun h => ?_)⟩
    · have e : ¬ x ≤ 1 := by omega
      rw [bifF (bleF e)] at hpp
      refine ⟨fun σ' H2 => ∃ (f x p : Nat) (x4 : Option V) (as : List Addr) (done rest : List (Nat × Nat)), σ' = [some (.int (n : Int)), some (.ref r), some (.int (x : Int)), some (.int (p : Int)), x4] ∧ f < g + 1 ∧ Same H H2 ∧ H2 r = some (.lst (as.map V.ref)) ∧ Prs H2 as (nats done) ∧ 0 < x ∧ x ≤ n ∧ 0 < p ∧ p ≤ n + 2 ∧ done.length + f = 70 ∧ ppL f x p = some rest ∧ l = done ++ rest, ?_, ?_⟩
      · rintro σ' H2 ⟨f, x, p, x4, as, done, rest, e1, e2, e3⟩
        exact ⟨f, e2, f, x, p, x4, as, done, rest, e1, rfl, e3⟩
      · cases hq : (bif isPrimeM x then some x else leastM x p) with
        | none =>
          rw [hq] at hpp
          cases hpp
        | some q2 =>
          rw [hq] at hpp
          refine ⟨fun σ' H2 => σ' = [some (.int (n : Int)), some (.ref r), some (.int (x : Int)), some (.int (q2 : Int)), x4] ∧ Same H' H2, ?_, ?_⟩
          · refine ⟨_, rfl, x, rfl, by show x < 1152921504606846976; omega, fun H3 s3 => ⟨_, rfl, ?_⟩⟩
            cases hi : isPrimeM x with
            | true =>
              rw [hi] at hq
              cases hq
              exact iteT ⟨_, rfl, rfl, s3⟩
            | false =>
              rw [hi] at hq
              exact iteF ⟨_, rfl, _, rfl, x, p, q2, rfl, by show x < 1152921504606846976; omega, by show p < 1152921504606846976; omega, hq, rfl, s3⟩
          · rintro σ' H2 ⟨rfl, s2⟩
            have q0 : x % q2 = 0 ∧ 2 ≤ q2 := by
              cases hi : isPrimeM x with
              | true =>
                rw [hi] at hq
                cases hq
                exact ⟨Nat.mod_self x, by omega⟩
              | false =>
                rw [hi] at hq
                exact leastM_dvd hq
            have q1 : q2 ≤ x := Nat.le_of_dvd x0 (Nat.dvd_of_mod_eq_zero q0.1)
            have x64 : x < 2 ^ 64 := by show x < 18446744073709551616; omega
            have q64 : q2 < 2 ^ 64 := Nat.lt_of_le_of_lt q1 x64
            refine ⟨_, rfl, _, rfl, x, q2, rfl, x0, x64, q0.2, q64, fun u nu => ?_⟩
            have su := same_upd (o := .tup [.int ((takenOut x q2).1 : Int), .int ((takenOut x q2).2 : Int)]) nu
            refine ⟨u, _, rfl, SqT.of upd_same, rfl, _, _, rfl, _, _, rfl, rfl, ?_⟩
            have od := toL_pos (p := q2) q0.2 (f := 64) (k := 0) x0
            change 0 < (takenOut x q2).2 ∧ (takenOut x q2).2 ≤ x at od
            have hr2 := su _ _ (s2 _ _ hr)
            refine ⟨_, rfl, .inl ⟨rfl, _, SqL.of hr2⟩, _, rfl, _, rfl, by show 2 ≤ sizeLine; decide, fun w nw => ?_⟩
            have sw := same_upd (o := .tup [.int (q2 : Int), .int ((takenOut x q2).1 : Int)]) nw
            have hr3 := sw _ _ hr2
            refine ⟨_, _, _, rfl, rfl, hr3, ?_, ?_⟩
            · rw [List.length_map, hp.len]
              unfold nats
              rw [List.length_map]
              exact small1000 (by omega)
            cases hl2 : ppL g (takenOut x q2).2 q2 with
            | none =>
              simp only [hl2] at hpp
              cases hpp
            | some l2 =>
              simp only [hl2] at hpp
              cases hpp
              have sall := (s2.trans su).trans sw
              refine ⟨g, (takenOut x q2).2, q2, _, as ++ [w], done ++ [(q2, (takenOut x q2).1)], l2, rfl, by omega, same_mut (hs.trans sall) nr, ?_, ?_, od.1, by omega, by omega, by omega, ?_, hl2, ?_⟩
              · rw [upd_same, List.map_append]
                rfl
              · have e7 : nats (done ++ [(q2, (takenOut x q2).1)]) = nats done ++ [((q2 : Int), ((takenOut x q2).1 : Int))] := by
                  unfold nats
                  rw [List.map_append]
                  rfl
                rw [e7]
                refine ((hp.same sall).mono fun b xs e2 => ?_).snoc ?_
                · rw [upd_ne (ne_of e2 hr3 (by intro z; cases z))]
                  exact e2
                · rw [upd_ne (ne_of upd_same hr3 (by intro z; cases z))]
                  exact upd_same
              · rw [List.length_append, List.length_cons, List.length_nil]
                omega
              · rw [hll, List.append_assoc]
                rfl
    · have e : x ≤ 1 := by omega
      rw [bifT (bleT e)] at hpp
      cases hpp
      rw [List.append_nil] at hll
      subst hll
      refine ⟨_, rfl, q H' r as hs nr hr hp ?_⟩
      rw [hp.len]
      unfold nats
      rw [List.length_map]
      omega
def spJoined (K : PySem.W.Frag) : Sp := fun vs H Q _ => ∃ (a b : Addr) (m1 m2 : Nat) (L1 L2 : List Int) (z : Int), vs = [.ref a, .int (m1 : Int), .ref b, .int (m2 : Int)] ∧ H a = some (.lst (L1.map V.int)) ∧ H b = some (.lst (L2.map V.int)) ∧ 0 < m1 ∧ 0 < m2 ∧ m1 < 2 ^ 60 ∧ m2 < 2 ^ 60 ∧ gI (m1 : Int) (m2 : Int) = 1 ∧ Rts z m1 L1 ∧ Rts z m2 L2 ∧ L1.length * L2.length ≤ 16000000 ∧
  ∀ H' r ns, Same H H' → H r = none → H' r = some (.lst (ns.map V.int)) → Rts z (m1 * m2) ns → ns.length = L1.length * L2.length → Q (.ref r) H'
theorem okJoined (T : Txt K mg fa fd) : FnOk P w K mg base CX0 2 (fa 12) (fd 12) ["roots", "modulus", "others", "part"] (spJoined K) := by
  refine T.F__joined.ok scJoined (fun vs H Q E h => ?_) (fun cdv A outer s H vs Q E hr h => ?_)
  · obtain ⟨a, b, m1, m2, L1, L2, z, rfl, ha, hb, p1, p2, b1, b2, hg, R1, R2, hl, q⟩ := h
    rfl
  · obtain ⟨a, b, m1, m2, L1, L2, z, rfl, ha, hb, p1, p2, b1, b2, hg, R1, R2, hl, q⟩ := h
    refine ⟨_, (pss_cons (ps_set (i := 4) scJoined.nd rfl (Or.inr rfl) (pe_ix (ixT K) (pe_call (okBezout T) hr (by rfl) T.G_bezout T.F_bezout.kp T.B_bezout .nil pass0 (pa_cons (pv 1) (pa_cons (pv 3) pa_nil))) pe_int (fun _ _ => rfl)))
      (pss_one (ps_ret (pe_lc2 (own := [("root", 5), ("other", 6)]) (vs1 := [6]) (g := gName 5) (g1 := gName 6) (tt := tYes) (tt1 := tYes) rfl scJoined.nd (piL K (pv 0)) (blkOk_by (own := [("root", 5), ("other", 6)]) (N := ["roots", "modulus", "others", "part", "inverse", "root", "other"]) (sc := defScope sJoined) (by decide +kernel)) (by decide) (fun _ _ _ _ _ => (pg_name (i := 5) scJoined.nd rfl (Or.inl rfl))) (fun _ _ _ _ _ => pts_nil) (fun _ _ _ _ _ => (piL K (pv 2))) (fun _ _ _ _ _ => (pg_name (i := 6) scJoined.nd rfl (Or.inl rfl))) (fun _ _ _ _ _ => pts_nil) (fun _ _ _ _ _ => (pe_op op_add (pv 5) (pe_op op_mul (pv 1) (pe_op op_mod (pe_op op_mul (pe_op op_sub (pv 6) (pv 5)) (pv 4)) (pv 3))))))))), ?_⟩
    have b1' : m1 < 1152921504606846976 := b1
    have b2' : m2 < 1152921504606846976 := b2
    refine ⟨_, rfl, _, rfl, (m1 : Int), (m2 : Int), rfl, pow_up (a := 60) (by rw [Int.natAbs_natCast]; exact b1) (by decide), pow_up (a := 60) (by rw [Int.natAbs_natCast]; exact b2) (by decide), fun t u v nt huv bu bv => ?_⟩
    rw [hg] at huv
    refine ⟨_, _, _, _, rfl, rfl, SqT.of upd_same, atI_nat (j := 1) rfl, ?_⟩
    have st := same_upd (o := .tup [.int (gI (m1 : Int) (m2 : Int)), .int u, .int v]) nt
    have ha1 := st _ _ ha
    have hb1 := st _ _ hb
    generalize upd H t (.tup [.int (gI (m1 : Int) (m2 : Int)), .int u, .int v]) = H1 at st ha1 hb1 ⊢
    refine ⟨_, rfl, a, rfl, ⟨_, SqL.of ha1⟩, fun D nD => ?_⟩
    have R := rts_join p1 p2 huv R1 R2
    have J : ∀ r o : Int, r + (m1 : Int) * ((o - r) * u % (m2 : Int)) = r + (m1 : Int) * ((o - r) * u % (m2 : Int)) := fun _ _ => rfl
    generalize hF : (fun r o => r + (m1 : Int) * ((o - r) * u % (m2 : Int)) : Int → Int → Int) = F at R
    have hF2 : ∀ r o, r + (m1 : Int) * ((o - r) * u % (m2 : Int)) = F r o := fun r o => by rw [← hF]
    have R' : Rts z (m1 * m2) (L1.flatMap fun r => L2.map (F r)) := by
      have e : (L1.flatMap fun r => L2.map fun o => r + (m1 : Int) * ((o - r) * u % (m2 : Int))) = L1.flatMap fun r => L2.map (F r) := by
        rw [← hF]
      rw [← e]
      exact rts_join p1 p2 huv R1 R2
    refine out_list (K := K) (a := a) (xs := L1.map V.int) (fun m H3 => Same H1 H3 ∧ H3 D = some (.lst (((L1.take m).flatMap fun y => L2.map (F y)).map V.int))) ⟨same_upd nD, upd_same⟩ (fun m H3 hm ⟨a1, a2⟩ => SqL.of (a1 _ _ ha1)) (fun m x H3 hx ⟨a1, a2⟩ => ?_) (fun H3 ⟨a1, a2⟩ => ?_)
    · rw [List.getElem?_map] at hx
      cases hn2 : L1[m]? with
      | none =>
        rw [hn2] at hx
        cases hx
      | some y =>
        rw [hn2] at hx
        cases hx
        have tk : L1.take (m + 1) = L1.take m ++ [y] := by
          rw [List.take_add_one, hn2]
          rfl
        have y1 := (R1.2 y).mp (List.mem_of_getElem? hn2)
        refine ⟨rfl, ?_⟩
        dsimp only [tYes]
        rw [if_pos rfl]
        refine ⟨_, rfl, b, rfl, ⟨_, SqL.of (a1 _ _ hb1)⟩, ?_⟩
        refine out_list (K := K) (a := b) (xs := L2.map V.int) (fun t H4 => Same H1 H4 ∧ H4 D = some (.lst ((((L1.take m).flatMap fun y => L2.map (F y)) ++ (L2.take t).map (F y)).map V.int))) ⟨a1, ?_⟩ (fun t H4 ht ⟨c1, c2⟩ => SqL.of (c1 _ _ hb1)) (fun t x H4 hx ⟨c1, c2⟩ => ?_) (fun H4 ⟨c1, c2⟩ => ⟨c1, ?_⟩)
        · rw [a2]
          simp
        · rw [List.getElem?_map] at hx
          cases hn3 : L2[t]? with
          | none =>
            rw [hn3] at hx
            cases hx
          | some o =>
            rw [hn3] at hx
            cases hx
            have tk2 : L2.take (t + 1) = L2.take t ++ [o] := by
              rw [List.take_add_one, hn3]
              rfl
            have o1 := (R2.2 o).mp (List.mem_of_getElem? hn3)
            refine ⟨rfl, ?_⟩
            dsimp only [tYes]
            rw [if_pos rfl]
            have em := Int.emod_nonneg ((o - y) * u) (show (m2 : Int) ≠ 0 by omega)
            refine ⟨_, rfl, _, rfl, _, rfl, _, rfl, _, _, rfl, rfl, _, rfl, _, _, rfl, rfl, .inl ⟨by omega, by omega⟩, _, rfl, _, _, rfl, rfl, by show (0 : Int) < (m2 : Int); omega, _, _, rfl, rfl, .inl ⟨by omega, by omega⟩, _, _, rfl, rfl, _, c2, ?_, fun b o e => ?_, ?_⟩
            · rw [List.length_map, List.length_append, len2, List.length_map, List.length_take, List.length_take]
              have l0 : m < L1.length := (List.getElem?_eq_some_iff.mp hn2).1
              have t0 : t < L2.length := (List.getElem?_eq_some_iff.mp hn3).1
              have l1 : (m + 1) * L2.length ≤ L1.length * L2.length := Nat.mul_le_mul_right _ l0
              rw [Nat.min_eq_left (by omega), Nat.min_eq_left (by omega)]
              rw [Nat.succ_mul] at l1
              exact Nat.lt_of_lt_of_le (show m * L2.length + t < 16000001 by omega) (by decide)
            · rw [upd_ne (ne_of_none e nD)]
              exact c1 _ _ e
            · have e5 : ((L1.take m).flatMap fun y => L2.map (F y)) ++ (L2.take (t + 1)).map (F y) = (((L1.take m).flatMap fun y => L2.map (F y)) ++ (L2.take t).map (F y)) ++ [F y o] := by
                rw [tk2, List.map_append, List.append_assoc]
                rfl
              rw [upd_same, e5]
              dsimp only
              rw [hF2 y o]
              exact congrArg (fun z => some (HO.lst z)) (List.map_append (f := V.int) (l₂ := [F y o])).symm
        · rw [List.length_map, List.take_length] at c2
          rw [c2, tk, List.flatMap_append, List.flatMap_cons, List.flatMap_nil, List.append_nil]
    · rw [List.length_map, List.take_length] at a2
      have nD0 : H D = none := Same.free st nD
      exact q _ D _ (st.trans a1) nD0 a2 R' len2
def spLiftedRoot (_ : PySem.W.Frag) : Sp := fun vs H Q _ => ∃ (r : Int) (z : Int) (p k : Nat), vs = [.int r, .int z, .int (p : Int), .int ((k + 1 : Nat) : Int)] ∧ Pr p ∧ 0 ≤ r ∧ r < (p : Int) ∧ ¬ (p : Int) ∣ 2 * r ∧ (p : Int) ∣ r * r - z ∧ p ^ (k + 1) < 2 ^ 60 ∧ k < 60 ∧ z.natAbs < 2 ^ 200 ∧
  ∀ H' r', Same H H' → 0 ≤ r' → r' < ((p ^ (k + 1) : Nat) : Int) → ((p ^ (k + 1) : Nat) : Int) ∣ r' * r' - z → (p : Int) ∣ r' - r → Q (.int r') H'
theorem Pr.gcd_one {p : Nat} (h : Pr p) {a : Int} (ha : ¬ (p : Int) ∣ a) : gI a (p : Int) = 1 := by
  unfold gI
  rw [Int.natAbs_natCast]
  have h1 : Nat.gcd a.natAbs p ∣ p := Nat.gcd_dvd_right _ _
  have h2 : Nat.gcd a.natAbs p ∣ a.natAbs := Nat.gcd_dvd_left _ _
  generalize Nat.gcd a.natAbs p = g at h1 h2
  obtain ⟨t, ht⟩ := h1
  have p2 := h.1
  rcases h.2 (g : Int) (t : Int) ⟨1, by rw [← Int.natCast_mul, ← ht, Int.mul_one]⟩ with z | z
  · exact absurd (Int.dvd_trans z (Int.ofNat_dvd_left.mpr h2)) ha
  · obtain ⟨c, hc⟩ := Int.natCast_dvd_natCast.mp z
    rw [hc] at ht
    have e : p * 1 = p * (g * c) := by
      rw [Nat.mul_one]
      calc p = g * (p * c) := ht
        _ = p * (g * c) := by ac_rfl
    have e2 := Nat.eq_of_mul_eq_mul_left (by omega) e
    have e3 : g = 1 := Nat.eq_one_of_mul_eq_one_right e2.symm
    rw [e3]
    rfl
theorem okLiftedRoot (T : Txt K mg fa fd) : FnOk P w K mg base CX0 2 (fa 21) (fd 21) ["root", "unit", "p", "many"] (spLiftedRoot K) := by
  refine T.F__lifted_root.ok scLiftedRoot (fun vs H Q E h => ?_) (fun cdv A outer s H vs Q E hr h => ?_)
  · obtain ⟨r, z, p, k, rfl, hp, r0, r1, h2, hrz, hP, hk, hz, q⟩ := h
    rfl
  · obtain ⟨r, z, p, k, rfl, hp, r0, r1, h2, hrz, hP, hk, hz, q⟩ := h
    refine ⟨_, (pss_cons (ps_set (i := 4) scLiftedRoot.nd rfl (Or.inl rfl) (pe_ix (ixT K) (pe_call (okBezout T) hr (by rfl) T.G_bezout T.F_bezout.kp T.B_bezout .nil pass0 (pa_cons (pe_op op_mul pe_int (pv 0)) (pa_cons (pv 2) pa_nil))) pe_int (fun _ _ => rfl)))
      (pss_cons (ps_set (i := 5) scLiftedRoot.nd rfl (Or.inl rfl) (pv 2))
      (pss_cons (ps_for PassesOwn.never rfl (pi_range1 (by rfl) T.m_range (pa_cons (pe_op op_subN (pv 3) pe_int) pa_nil)) (pg_name (i := 6) scLiftedRoot.nd rfl (Or.inl rfl))
      (pss_cons (ps_set (i := 5) scLiftedRoot.nd rfl (Or.inl rfl) (pe_op mulNN (pv 5) (pv 2)))
        (pss_one (ps_set (i := 0) scLiftedRoot.nd rfl (Or.inl rfl) (pe_op op_mod (pe_op op_sub (pv 0) (pe_op op_mulW (pe_op op_sub (pe_op op_mul (pv 0) (pv 0)) (pv 1)) (pv 4))) (pv 5))))))
      (pss_one (ps_ret (pv 0)))))), ?_⟩
    have p2 := hp.1
    have hP' : p ^ (k + 1) < 1152921504606846976 := hP
    have pP : p ≤ p ^ (k + 1) := Nat.le_self_pow (by omega) p
    have b1 : (2 * r).natAbs < 2 ^ 9400 := pow_up (a := 62) (by show _ < 4611686018427387904; omega) (by decide)
    have b2 : ((p : Nat) : Int).natAbs < 2 ^ 8990 := pow_up (a := 62) (by rw [Int.natAbs_natCast]; show _ < 4611686018427387904; omega) (by decide)
    refine ⟨_, rfl, _, _, rfl, rfl, .inl ⟨by decide, by decide⟩, _, rfl, 2 * r, (p : Int), rfl, b1, b2, fun t inv v nt hb bi bv => ?_⟩
    rw [hp.gcd_one h2] at hb
    refine ⟨_, _, _, _, rfl, rfl, SqT.of upd_same, atI_nat (j := 1) rfl, _, rfl, ?_⟩
    have st := same_upd (o := .tup [.int (gI (2 * r) (p : Int)), .int inv, .int v]) nt
    generalize upd H t (.tup [.int (gI (2 * r) (p : Int)), .int inv, .int v]) = H1 at st ⊢
    refine ⟨_, rfl, k + 1, 1, rfl, rfl, by omega, _, rfl, by omega, by omega, ?_⟩
    have ek : (((k + 1 - 1 : Nat) : Int)).toNat = k := by omega
    rw [ek]
    refine for_range (lo := 0) (n := k) (fun i σ H' => ∃ (x : Int) (x6 : Option V), σ = [some (.int x), some (.int z), some (.int (p : Int)), some (.int ((k + 1 : Nat) : Int)), some (.int inv), some (.int ((p ^ (i + 1) : Nat) : Int)), x6] ∧ H' = H1 ∧ 0 ≤ x ∧ x < ((p ^ (i + 1) : Nat) : Int) ∧ ((p ^ (i + 1) : Nat) : Int) ∣ x * x - z ∧ (p : Int) ∣ x - r)
      ⟨r, none, ?_, rfl, r0, by rw [Nat.zero_add, Nat.pow_one]; exact r1, by rw [Nat.zero_add, Nat.pow_one]; exact hrz, ⟨0, by omega⟩⟩ (fun i σ H' hi ⟨x, x6, e1, e2, c1, c2, c3, c4⟩ => ?_) (fun σ H' ⟨x, x6, e1, e2, c1, c2, c3, c4⟩ => ?_)
    · rw [Nat.zero_add, Nat.pow_one]
      rfl
    · subst e1 e2
      have le : p ^ (i + 1) ≤ p ^ (k + 1) := Nat.pow_le_pow_right (by omega) (by omega)
      have le2 : p ^ (i + 2) ≤ p ^ (k + 1) := Nat.pow_le_pow_right (by omega) (by omega)
      have ip : 0 < p ^ (i + 1) := Nat.pow_pos (by omega)
      have ip2 : 0 < p ^ (i + 2) := Nat.pow_pos (by omega)
      have eM : p ^ (i + 1) * p = p ^ (i + 2) := (Nat.pow_succ p (i + 1)).symm
      refine ⟨_, rfl, _, rfl, p ^ (i + 1), p, rfl, rfl, .inl (by show _ < 18446744073709551616; omega), ?_⟩
      rw [eM]
      have xb : x.natAbs < 2 ^ 60 := by show _ < 1152921504606846976; omega
      have bb : (x * x - z).natAbs < 2 ^ 210 := by
        have w := wide_lt xb xb
        have e1 : (2 : Nat) ^ (60 + 60) + 2 ^ 200 ≤ 2 ^ 210 := by decide
        omega
      refine ⟨_, rfl, _, rfl, _, rfl, _, _, rfl, rfl, .inl ⟨by omega, by omega⟩, _, rfl, _, _, rfl, rfl, _, rfl, _, _, rfl, rfl, wide_mul bb bi (by decide) (by decide) (by decide), _, _, rfl, rfl, _, rfl, _, _, rfl, rfl, by show (0 : Int) < ((p ^ (i + 2) : Nat) : Int); omega, ?_⟩
      obtain ⟨c, hc⟩ := c3
      obtain ⟨w, hw⟩ := c4
      have h2' : inv * (2 * x) - 1 = (p : Int) * (inv * 2 * w - v) := by
        have e1 : x = r + (p : Int) * w := by omega
        rw [e1]
        clear hc e1
        grind
      have h3 : ((p ^ (i + 1) : Nat) : Int) = (p : Int) * ((p ^ i : Nat) : Int) := by rw [Nat.pow_succ, Int.natCast_mul, Int.mul_comm]
      obtain ⟨m, hm⟩ := lift_step hc h2' h3
      have eM2 : ((p ^ (i + 2) : Nat) : Int) = ((p ^ (i + 1) : Nat) : Int) * (p : Int) := by rw [← eM, Int.natCast_mul]
      refine ⟨_, some (.int ((0 : Int) + (i : Int))), rfl, rfl, Int.emod_nonneg _ (by omega), Int.emod_lt_of_pos _ (by omega), mod_sq ⟨m, by rw [hm, eM2]⟩, ?_⟩
      have dm := Int.mul_ediv_add_emod (x - (x * x - z) * inv) ((p ^ (i + 2) : Nat) : Int)
      generalize (x - (x * x - z) * inv) % ((p ^ (i + 2) : Nat) : Int) = y at dm ⊢
      generalize (x - (x * x - z) * inv) / ((p ^ (i + 2) : Nat) : Int) = qq at dm
      rw [hc, eM2, h3] at dm
      refine ⟨w - ((p ^ i : Nat) : Int) * c * inv - ((p ^ i : Nat) : Int) * (p : Int) * qq, ?_⟩
      generalize ((p ^ i : Nat) : Int) = A at dm ⊢
      clear hc hm h2' h3 eM2
      grind
    · subst e1 e2
      exact ⟨_, rfl, q H' x st c1 c2 c3 c4⟩
def spUnitRootsOfTwo (_ : PySem.W.Frag) : Sp := fun vs H Q _ => ∃ (u : Int) (k : Nat), vs = [.int u, .int (k : Int)] ∧ u % 2 = 1 ∧ 1 ≤ k ∧ k ≤ 50 ∧
  ∀ H' r ns, Same H H' → H r = none → H' r = some (.lst (ns.map V.int)) → Rts u (2 ^ k) ns → ns.length ≤ 4 → Q (.ref r) H'
theorem okUnitRootsOfTwo (T : Txt K mg fa fd) : FnOk P w K mg base CX0 1 (fa 17) (fd 17) ["unit", "many"] (spUnitRootsOfTwo K) := by
  refine T.F__unit_roots_of_two.ok scUnitRootsOfTwo (fun vs H Q E h => ?_) (fun cdv A outer s H vs Q E hr h => ?_)
  · obtain ⟨u, k, rfl, hu, k1, k50, q⟩ := h
    rfl
  · obtain ⟨u, k, rfl, hu, k1, k50, q⟩ := h
    refine ⟨_, (pss_cons (ps_if (pt_cmp (pc_eqI (pv 1) pe_int))
      (pss_one (ps_ret (pe_lst (pa_cons pe_int pa_nil))))
      pss_nil)
      (pss_cons (ps_if (pt_cmp (pc_eqI (pv 1) pe_int))
      (pss_one (ps_ret (pe_ifExp (pt_cmp (pc_eqI (pe_op op_mod (pv 0) pe_int) pe_int)) (pe_lst (pa_cons pe_int (pa_cons pe_int pa_nil))) (pe_lst pa_nil))))
      pss_nil)
      (pss_cons (ps_if (pt_cmp (pc_neI (pe_op op_mod (pv 0) pe_int) pe_int))
      (pss_one (ps_ret (pe_lst pa_nil)))
      pss_nil)
      (pss_cons (ps_set (i := 2) scUnitRootsOfTwo.nd rfl (Or.inl rfl) pe_int)
      (pss_cons (ps_set (i := 3) scUnitRootsOfTwo.nd rfl (Or.inl rfl) pe_int)
      (pss_cons (ps_for PassesOwn.never rfl (pi_range1 (by rfl) T.m_range (pa_cons (pe_op op_sub (pv 1) pe_int) pa_nil)) (pg_name (i := 4) scUnitRootsOfTwo.nd rfl (Or.inl rfl))
      (C8.pss_cut (ps_if (pt_cmp (pc_neI (pe_op op_mod (pe_op op_sub (pe_op op_mul (pv 2) (pv 2)) (pv 0)) (pe_op op_mul pe_int (pv 3))) pe_int))
        (pss_one (ps_set (i := 2) scUnitRootsOfTwo.nd rfl (Or.inl rfl) (pe_op op_add (pv 2) (pe_op op_fdiv (pv 3) pe_int))))
        pss_nil)
        (pss_one (ps_set (i := 3) scUnitRootsOfTwo.nd rfl (Or.inl rfl) (pe_op op_mul pe_int (pv 3))))))
      (pss_cons (ps_set (i := 5) scUnitRootsOfTwo.nd rfl (Or.inl rfl) (pe_op op_fdiv (pv 3) pe_int))
      (pss_one (ps_ret (pe_lst (pa_cons (pv 2) (pa_cons (pe_op op_sub (pv 5) (pv 2)) (pa_cons (pe_op op_add (pv 5) (pv 2)) (pa_cons (pe_op op_sub (pv 3) (pv 2)) pa_nil)))))))))))))), ?_⟩
    refine ⟨_, rfl, _, _, rfl, rfl, _, rfl, way2 (fun h => ?_) (fun h => ?_)⟩
    · have e : k = 1 := by omega
      subst e
      refine ⟨by show 1 ≤ sizeLine; decide, fun r nr => q _ r [1] (same_upd nr) nr upd_same ⟨by decide, fun x => ?_⟩ (by decide)⟩
      rw [List.mem_singleton]
      show x = 1 ↔ 0 ≤ x ∧ x < 2 ∧ (2 : Int) ∣ x * x - u
      refine ⟨fun e => ⟨by omega, by omega, by rw [e]; exact ⟨(1 - u) / 2, by omega⟩⟩, fun ⟨a, b, c⟩ => ?_⟩
      have := odd_of_root ⟨1, rfl⟩ hu c
      omega
    · refine ⟨_, rfl, _, _, rfl, rfl, _, rfl, way2 (fun h2 => ?_) (fun h2 => ?_)⟩
      · have e : k = 2 := by omega
        subst e
        refine ⟨_, rfl, _, _, rfl, rfl, by show (0 : Int) < 4; decide, _, _, rfl, rfl, _, rfl, way2 (fun h3 => ?_) (fun h3 => ?_)⟩
        · refine ⟨by show 2 ≤ sizeLine; decide, fun r nr => q _ r [1, 3] (same_upd nr) nr upd_same ⟨by decide, fun x => ?_⟩ (by decide)⟩
          simp only [List.mem_cons, List.not_mem_nil, or_false]
          show x = 1 ∨ x = 3 ↔ 0 ≤ x ∧ x < 4 ∧ (4 : Int) ∣ x * x - u
          refine ⟨fun e => ?_, fun ⟨a, b, c⟩ => ?_⟩
          · rcases e with rfl | rfl
            · exact ⟨by omega, by omega, ⟨(1 - u) / 4, by omega⟩⟩
            · exact ⟨by omega, by omega, ⟨(9 - u) / 4, by omega⟩⟩
          · have := odd_of_root ⟨2, rfl⟩ hu c
            omega
        · refine ⟨Nat.zero_le _, fun r nr => q _ r [] (same_upd nr) nr upd_same ⟨List.nodup_nil, fun x => ⟨(fun hx => nomatch hx), fun ⟨a, b, c⟩ => ?_⟩⟩ (by decide)⟩
          change (4 : Int) ∣ x * x - u at c
          obtain ⟨y, hy⟩ := odd_sq8 (odd_of_root ⟨2, rfl⟩ hu c)
          obtain ⟨w, hw⟩ := c
          omega
      · refine ⟨_, rfl, _, _, rfl, rfl, by show (0 : Int) < 8; decide, _, _, rfl, rfl, _, rfl, wayN2 (fun h3 => ?_) (fun h3 => ?_)⟩
        · refine ⟨Nat.zero_le _, fun r nr => q _ r [] (same_upd nr) nr upd_same ⟨List.nodup_nil, fun x => ⟨(fun hx => nomatch hx), fun ⟨a, b, c⟩ => ?_⟩⟩ (by decide)⟩
          obtain ⟨j, rfl⟩ : ∃ j, k = j + 3 := ⟨k - 3, by omega⟩
          have e8 : ((2 ^ (j + 3) : Nat) : Int) = 8 * ((2 ^ j : Nat) : Int) := by rw [Nat.pow_add, Int.natCast_mul, Int.mul_comm]; rfl
          rw [e8] at c
          obtain ⟨y, hy⟩ := odd_sq8 (odd_of_root (m := 8 * ((2 ^ j : Nat) : Int)) ⟨4 * ((2 ^ j : Nat) : Int), by omega⟩ hu c)
          obtain ⟨w, hw⟩ := c
          rw [Int.mul_assoc] at hw
          omega
        · obtain ⟨j, rfl⟩ : ∃ j, k = j + 3 := ⟨k - 3, by omega⟩
          refine ⟨_, rfl, _, _, rfl, rfl, _, rfl, by omega, by omega, ?_⟩
          have ej : (((j + 3 : Nat) : Int) - 3).toNat = j := by omega
          rw [ej]
          refine for_range (lo := 0) (n := j) (fun i σ H' => ∃ (x : Int) (x4 : Option V), σ = [some (.int u), some (.int ((j + 3 : Nat) : Int)), some (.int x), some (.int (8 * ((2 ^ i : Nat) : Int))), x4, none] ∧ H' = H ∧ 0 < x ∧ x < 4 * ((2 ^ i : Nat) : Int) ∧ 8 * ((2 ^ i : Nat) : Int) ∣ x * x - u)
            ⟨1, none, rfl, rfl, by decide, by decide, ⟨(1 - u) / 8, by show (1 : Int) * 1 - u = 8 * 1 * ((1 - u) / 8); omega⟩⟩ (fun i σ H' hi ⟨x, x4, e1, e2, c1, c2, c3⟩ => ?_) (fun σ H' ⟨x, x4, e1, e2, c1, c2, c3⟩ => ?_)
          · subst e1 e2
            have i0 : 0 < 2 ^ i := Nat.two_pow_pos i
            have i1 : 2 ^ i ≤ 2 ^ 50 := Nat.pow_le_pow_right (by decide) (by omega)
            have i2 : 2 ^ i ≤ 1125899906842624 := i1
            have es : ((2 ^ (i + 1) : Nat) : Int) = 2 * ((2 ^ i : Nat) : Int) := by rw [Nat.pow_succ, Int.natCast_mul, Int.mul_comm]; rfl
            obtain ⟨c, hc⟩ := c3
            have xodd := odd_of_root (m := 8 * ((2 ^ i : Nat) : Int)) ⟨4 * ((2 ^ i : Nat) : Int), by omega⟩ hu ⟨c, hc⟩
            generalize ((2 ^ i : Nat) : Int) = A at *
            have A0 : 0 < A := by omega
            refine ⟨fun σ H2 => ∃ x : Int, σ = [some (.int u), some (.int ((j + 3 : Nat) : Int)), some (.int x), some (.int (8 * A)), some (.int ((0 : Int) + (i : Int))), none] ∧ H2 = H' ∧ 0 < x ∧ x < 8 * A ∧ 16 * A ∣ x * x - u, ?_, ?_⟩
            · refine ⟨_, rfl, _, rfl, _, _, rfl, rfl, .inl ⟨by omega, by omega⟩, _, rfl, _, _, rfl, rfl, _, rfl, _, _, rfl, rfl, .inl ⟨by decide, by decide⟩, _, _, rfl, rfl, by show (0 : Int) < 2 * (8 * A); omega, _, _, rfl, rfl, _, rfl, wayN2 (fun h5 => ?_) (fun h5 => ?_)⟩
              · refine ⟨_, rfl, _, rfl, _, _, rfl, rfl, ⟨by decide, by decide⟩, _, _, rfl, rfl, x + 8 * A / 2, rfl, rfl, by omega, by omega, ?_⟩
                have e4 : 8 * A / 2 = 4 * A := by omega
                rw [e4]
                have codd : c % 2 = 1 := by
                  by_cases z : c % 2 = 1
                  · exact z
                  · obtain ⟨b, hb⟩ : ∃ b, c = 2 * b := ⟨c / 2, by omega⟩
                    refine absurd ?_ h5
                    rw [hc, hb, show 8 * A * (2 * b) = 2 * (8 * A) * b by grind]
                    exact Int.mul_emod_right _ _
                obtain ⟨b, hb⟩ : ∃ b, c = 2 * b + 1 := ⟨c / 2, by omega⟩
                obtain ⟨y, hy⟩ : ∃ y, x = 2 * y + 1 := ⟨x / 2, by omega⟩
                refine ⟨b + 1 + y + A, ?_⟩
                subst hb
                clear h5
                grind
              · have e6 := Int.dvd_of_emod_eq_zero h5
                obtain ⟨m, hm⟩ := e6
                exact ⟨x, rfl, rfl, c1, by omega, ⟨m, by rw [hm]; grind⟩⟩
            · rintro σ H2 ⟨x, rfl, rfl, d1, d2, d3⟩
              refine ⟨_, rfl, _, _, rfl, rfl, .inl ⟨by decide, by decide⟩, x, some (.int ((0 : Int) + (i : Int))), ?_, rfl, d1, ?_, ?_⟩
              · rw [es, show 8 * (2 * A) = 2 * (8 * A) by omega]
                rfl
              · rw [es]
                omega
              · rw [es, show 8 * (2 * A) = 16 * A by omega]
                exact d3
          · subst e1 e2
            have j0 : 0 < 2 ^ j := Nat.two_pow_pos j
            have e8 : ((2 ^ (j + 3) : Nat) : Int) = 8 * ((2 ^ j : Nat) : Int) := by rw [Nat.pow_add, Int.natCast_mul, Int.mul_comm]; rfl
            have e4 : ((2 ^ (j + 2) : Nat) : Int) = 4 * ((2 ^ j : Nat) : Int) := by rw [Nat.pow_add, Int.natCast_mul, Int.mul_comm]; rfl
            have pw : ∀ a b : Int, a % 2 = 1 → 4 * ((2 ^ j : Nat) : Int) ∣ a * b → 4 * ((2 ^ j : Nat) : Int) ∣ b := fun a b ha hd => by
              rw [← e4] at hd ⊢
              exact two_pw ha hd
            have hh : 8 * ((2 ^ j : Nat) : Int) / 2 = 4 * ((2 ^ j : Nat) : Int) := by omega
            refine ⟨_, rfl, _, _, rfl, rfl, ⟨by decide, by decide⟩, ?_⟩
            dsimp only
            rw [hh]
            have R := two_rts (F := 4 * ((2 ^ j : Nat) : Int)) hu ⟨2 * ((2 ^ j : Nat) : Int), by omega, by omega, by omega⟩ c1 c2 (by rw [show 2 * (4 * ((2 ^ j : Nat) : Int)) = 8 * ((2 ^ j : Nat) : Int) by omega]; exact c3) pw
            rw [show 2 * (4 * ((2 ^ j : Nat) : Int)) = 8 * ((2 ^ j : Nat) : Int) by omega] at R
            refine ⟨_, rfl, _, rfl, _, rfl, _, _, rfl, rfl, _, rfl, _, rfl, _, _, rfl, rfl, _, rfl, _, rfl, _, _, rfl, rfl, by show 4 ≤ sizeLine; decide, fun r nr => ?_⟩
            refine q _ r [x, 4 * ((2 ^ j : Nat) : Int) - x, 4 * ((2 ^ j : Nat) : Int) + x, 8 * ((2 ^ j : Nat) : Int) - x] (same_upd nr) nr upd_same ?_ (Nat.le_refl 4)
            unfold Rts
            rw [e8]
            exact R
def spIsResidue (_ : PySem.W.Frag) : Sp := fun vs H Q _ => ∃ (z : Int) (b p : Nat), vs = [.int z, .int (p : Int)] ∧ 1 < p ∧ p < 2 ^ 60 ∧ z % (p : Int) = ((b % p : Nat) : Int) ∧ Q (.bl (resM b p)) H
theorem dec_beq {a b : Nat} : decide ((a : Int) = (b : Int)) = a.beq b := by
  by_cases z : a = b
  · rw [decide_eq_true (by omega), beqT z]
  · rw [decide_eq_false (by omega), beqF z]
theorem okIsResidue (T : Txt K mg fa fd) : FnOk P w K mg base CX0 2 (fa 11) (fd 11) ["d", "p"] (spIsResidue K) := by
  refine T.F_is_residue.ok scIsResidue (fun vs H Q E h => ?_) (fun cdv A outer s H vs Q E hr h => ?_)
  · obtain ⟨z, b, p, rfl, p0, p1, hz, q⟩ := h
    rfl
  · obtain ⟨z, b, p, rfl, p0, p1, hz, q⟩ := h
    refine ⟨_, (pss_one (ps_ret (pe_cmp (pc_eqI (pe_call (okPowerModulo T) hr (by rfl) T.G_power_modulo T.F_power_modulo.kp T.B_power_modulo .nil pass0 (pa_cons (pv 0) (pa_cons (pe_op divNN (pe_op op_subN (pv 1) pe_int) pe_int) (pa_cons (pv 1) pa_nil)))) pe_int)))), ?_⟩
    have p1' : p < 1152921504606846976 := p1
    refine ⟨_, rfl, _, rfl, p, 1, rfl, rfl, by omega, p - 1, 2, rfl, rfl, div9 (by decide) (by decide), _, rfl, z, b, (p - 1) / 2, p, rfl, by omega, Nat.lt_trans p1 (by decide), by show _ < 18446744073709551616; omega, hz, _, _, rfl, rfl, ?_⟩
    have e : decide (((pmod b ((p - 1) / 2) p : Nat) : Int) = 1) = resM b p := dec_beq (b := 1)
    dsimp only
    rw [e]
    exact q
def spLeastNonResidue (_ : PySem.W.Frag) : Sp := fun vs H Q _ => ∃ p z : Nat, vs = [.int (p : Int)] ∧ 1 < p ∧ p < 2 ^ 60 ∧ lnrL p 100 2 = some z ∧ Q (.int (z : Int)) H
theorem okLeastNonResidue (T : Txt K mg fa fd) : FnOk P w K mg base CX0 3 (fa 19) (fd 19) ["p"] (spLeastNonResidue K) := by
  refine T.F__least_non_residue.ok scLeastNonResidue (fun vs H Q E h => ?_) (fun cdv A outer s H vs Q E hr h => ?_)
  · obtain ⟨p, z, rfl, p0, p1, hz, q⟩ := h
    rfl
  · obtain ⟨p, z, rfl, p0, p1, hz, q⟩ := h
    refine ⟨_, (pss_cons (ps_set (i := 1) scLeastNonResidue.nd rfl (Or.inl rfl) pe_int)
      (pss_cons (ps_while PassesOwn.never (pt_val (pe_call (okIsResidue T) hr (by rfl) T.G_is_residue T.F_is_residue.kp T.B_is_residue .nil pass0 (pa_cons (pv 1) (pa_cons (pv 0) pa_nil))))
      (pss_one (ps_aug (i := 1) scLeastNonResidue.nd rfl (Or.inl rfl) pe_int (PIp_of iop_addN))))
      (pss_one (ps_ret (pv 1))))), ?_⟩
    refine ⟨fun t σ H' => ∃ (f x : Nat), σ = [some (.int (p : Int)), some (.int (x : Int))] ∧ t = f ∧ H' = H ∧ lnrL p f x = some z, ⟨_, 100, 2, rfl, rfl, rfl, hz⟩, ?_⟩
    rintro t σ H' ⟨f, x, rfl, rfl, rfl, hr⟩
    obtain ⟨g, rfl⟩ : ∃ g, t = g + 1 := by
      cases t with
      | zero => cases hr
      | succ g => exact ⟨g, rfl⟩
    unfold lnrL at hr
    refine ⟨_, rfl, _, rfl, (x : Int), x, p, rfl, p0, p1, (Int.natCast_emod x p).symm, _, rfl, ?_⟩
    cases e : resM x p with
    | true =>
      rw [e] at hr
      refine iteT ⟨fun σ' H2 => σ' = [some (.int (p : Int)), some (.int ((x + 1 : Nat) : Int))] ∧ H2 = H', ?_, ?_⟩
      · rintro σ' H2 ⟨e1, e2⟩
        exact ⟨g, by omega, g, x + 1, e1, rfl, e2, hr⟩
      · exact ⟨_, rfl, x, 1, rfl, rfl, rfl, rfl⟩
    | false =>
      rw [e] at hr
      have e2 : x = z := Option.some.inj hr
      subst e2
      exact iteF ⟨_, rfl, q⟩
def spDoublingsToOne (_ : PySem.W.Frag) : Sp := fun vs H Q _ => ∃ x p k : Nat, vs = [.int (x : Int), .int (p : Int)] ∧ 1 < p ∧ p < 2 ^ 60 ∧ x < p ∧ dblL p 100 x 0 = some k ∧ Q (.int (k : Int)) H
theorem okDoublingsToOne (T : Txt K mg fa fd) : FnOk P w K mg base CX0 1 (fa 20) (fd 20) ["number", "p"] (spDoublingsToOne K) := by
  refine T.F__doublings_to_one.ok scDoublingsToOne (fun vs H Q E h => ?_) (fun cdv A outer s H vs Q E hr h => ?_)
  · obtain ⟨x, p, k, rfl, p0, p1, x1, hk, q⟩ := h
    rfl
  · obtain ⟨x, p, k, rfl, p0, p1, x1, hk, q⟩ := h
    refine ⟨_, (pss_cons (ps_set (i := 2) scDoublingsToOne.nd rfl (Or.inl rfl) pe_int)
      (pss_cons (ps_while PassesOwn.never (pt_cmp (pc_neI (pv 0) pe_int))
      (pss_cons (ps_set (i := 0) scDoublingsToOne.nd rfl (Or.inl rfl) (pe_op modNN (pe_op mulNN (pv 0) (pv 0)) (pv 1)))
        (pss_one (ps_aug (i := 2) scDoublingsToOne.nd rfl (Or.inl rfl) pe_int (PIp_of iop_addN)))))
      (pss_one (ps_ret (pv 2))))), ?_⟩
    refine ⟨fun t σ H' => ∃ (f x i : Nat), σ = [some (.int (x : Int)), some (.int (p : Int)), some (.int (i : Int))] ∧ t = f ∧ H' = H ∧ x < p ∧ dblL p f x i = some k, ⟨_, 100, x, 0, rfl, rfl, rfl, x1, hk⟩, ?_⟩
    rintro t σ H' ⟨f, x, i, rfl, rfl, rfl, x1, hr⟩
    obtain ⟨g, rfl⟩ : ∃ g, t = g + 1 := by
      cases t with
      | zero => cases hr
      | succ g => exact ⟨g, rfl⟩
    unfold dblL at hr
    refine ⟨_, rfl, _, _, rfl, rfl, _, rfl, wayN2 (fun h => ?_) (fun h => ?_)⟩
    · have e : x ≠ 1 := by omega
      rw [bifF (beqF e)] at hr
      refine ⟨fun σ' H2 => σ' = [some (.int ((x * x % p : Nat) : Int)), some (.int (p : Int)), some (.int ((i + 1 : Nat) : Int))] ∧ H2 = H', ?_, ?_⟩
      · rintro σ' H2 ⟨e1, e2⟩
        exact ⟨g, by omega, g, x * x % p, i + 1, e1, rfl, e2, Nat.mod_lt _ (by omega), hr⟩
      · exact ⟨_, rfl, _, rfl, x, x, rfl, rfl, .inl (Nat.lt_trans x1 (Nat.lt_trans p1 (by decide))), _, rfl, x * x, p, rfl, rfl, by omega, _, rfl, i, 1, rfl, rfl, rfl, rfl⟩
    · have e : x = 1 := by omega
      rw [bifT (beqT e)] at hr
      have e2 : i = k := Option.some.inj hr
      subst e2
      exact ⟨_, rfl, q⟩
def spPrimeRoot (_ : PySem.W.Frag) : Sp := fun vs H Q _ => ∃ u p r : Nat, vs = [.int (u : Int), .int (p : Int)] ∧ 2 < p ∧ p < 2 ^ 60 ∧ prM u p = some r ∧ ∀ H', Same H H' → Q (.int (r : Int)) H'
theorem okPrimeRoot (T : Txt K mg fa fd) : FnOk P w K mg base CX0 4 (fa 18) (fd 18) ["unit", "p"] (spPrimeRoot K) := by
  refine T.F__prime_root.ok scPrimeRoot (fun vs H Q E h => ?_) (fun cdv A outer s H vs Q E hr h => ?_)
  · obtain ⟨u, p, r, rfl, p0, p1, hm, q⟩ := h
    rfl
  · obtain ⟨u, p, r, rfl, p0, p1, hm, q⟩ := h
    refine ⟨_, (pss_cons (ps_asg (pe_call (okTakenOut T) (hr.mono (by decide)) (by rfl) T.G_taken_out T.F_taken_out.kp T.B_taken_out .nil pass0 (pa_cons (pe_op op_subN (pv 1) pe_int) (pa_cons pe_int pa_nil))) (pg_tup (by rfl) (pgs_cons (pg_name (i := 2) scPrimeRoot.nd rfl (Or.inl rfl)) (pgs_cons (pg_name (i := 3) scPrimeRoot.nd rfl (Or.inl rfl)) pgs_nil))))
      (pss_cons (ps_set (i := 4) scPrimeRoot.nd rfl (Or.inl rfl) (pe_call (okPowerModulo T) (hr.mono (by decide)) (by rfl) T.G_power_modulo T.F_power_modulo.kp T.B_power_modulo .nil pass0 (pa_cons (pv 0) (pa_cons (pe_op divNN (pe_op op_addN (pv 3) pe_int) pe_int) (pa_cons (pv 1) pa_nil)))))
      (pss_cons (ps_set (i := 5) scPrimeRoot.nd rfl (Or.inl rfl) (pe_call (okPowerModulo T) (hr.mono (by decide)) (by rfl) T.G_power_modulo T.F_power_modulo.kp T.B_power_modulo .nil pass0 (pa_cons (pv 0) (pa_cons (pv 3) (pa_cons (pv 1) pa_nil)))))
      (pss_cons (ps_set (i := 6) scPrimeRoot.nd rfl (Or.inl rfl) (pe_call (okPowerModulo T) (hr.mono (by decide)) (by rfl) T.G_power_modulo T.F_power_modulo.kp T.B_power_modulo .nil pass0 (pa_cons (pe_call (okLeastNonResidue T) hr (by rfl) T.G__least_non_residue T.F__least_non_residue.kp T.B__least_non_residue .nil pass0 (pa_cons (pv 1) pa_nil)) (pa_cons (pv 3) (pa_cons (pv 1) pa_nil)))))
      (pss_cons (ps_while PassesOwn.never (pt_cmp (pc_neI (pv 5) pe_int))
      (pss_cons (ps_set (i := 7) scPrimeRoot.nd rfl (Or.inl rfl) (pe_call (okDoublingsToOne T) (hr.mono (by decide)) (by rfl) T.G__doublings_to_one T.F__doublings_to_one.kp T.B__doublings_to_one .nil pass0 (pa_cons (pv 5) (pa_cons (pv 1) pa_nil))))
        (pss_cons (ps_for PassesOwn.never rfl (pi_range1 (by rfl) T.m_range (pa_cons (pe_op op_sub (pe_op op_sub (pv 2) (pv 7)) pe_int) pa_nil)) (pg_name (i := 8) scPrimeRoot.nd rfl (Or.inl rfl))
        (pss_one (ps_set (i := 6) scPrimeRoot.nd rfl (Or.inl rfl) (pe_op modNN (pe_op mulNN (pv 6) (pv 6)) (pv 1)))))
        (pss_cons (ps_set (i := 4) scPrimeRoot.nd rfl (Or.inl rfl) (pe_op modNN (pe_op mulNN (pv 4) (pv 6)) (pv 1)))
        (pss_cons (ps_set (i := 6) scPrimeRoot.nd rfl (Or.inl rfl) (pe_op modNN (pe_op mulNN (pv 6) (pv 6)) (pv 1)))
        (pss_cons (ps_set (i := 5) scPrimeRoot.nd rfl (Or.inl rfl) (pe_op modNN (pe_op mulNN (pv 5) (pv 6)) (pv 1)))
        (pss_one (ps_set (i := 2) scPrimeRoot.nd rfl (Or.inl rfl) (pv 7)))))))))
      (pss_one (ps_ret (pv 4)))))))), ?_⟩
    have p1' : p < 1152921504606846976 := p1
    have p64 : p < 2 ^ 64 := Nat.lt_trans p1 (by decide)
    have z1 : 0 < p - 1 := by omega
    have od := toL_pos (p := 2) (by decide) (f := 64) (k := 0) z1
    change 0 < (takenOut (p - 1) 2).2 ∧ (takenOut (p - 1) 2).2 ≤ p - 1 at od
    unfold prM at hm
    cases hz : lnrL p 100 2 with
    | none =>
      rw [hz] at hm
      cases hm
    | some z =>
      rw [hz] at hm
      have mn := toL_fst (p := 2) (f := 64) (n := p - 1) (k := 0)
      change (takenOut (p - 1) 2).1 ≤ 0 + 64 at mn
      dsimp only at hm
      refine ⟨_, rfl, p, 1, rfl, rfl, by omega, p - 1, 2, rfl, z1, by omega, by decide, by decide, fun t nt => ?_⟩
      have st := same_upd (o := .tup [.int ((takenOut (p - 1) 2).1 : Int), .int ((takenOut (p - 1) 2).2 : Int)]) nt
      refine ⟨t, _, rfl, SqT.of upd_same, rfl, _, _, rfl, _, _, rfl, rfl, ?_⟩
      generalize upd H t (.tup [.int ((takenOut (p - 1) 2).1 : Int), .int ((takenOut (p - 1) 2).2 : Int)]) = H1 at st ⊢
      generalize (takenOut (p - 1) 2).1 = many at hm mn ⊢
      generalize (takenOut (p - 1) 2).2 = odd at hm od ⊢
      have pm : ∀ e, pmod u e p < p := fun e => pmod_lt (by omega)
      refine ⟨_, rfl, _, rfl, odd, 1, rfl, rfl, odd + 1, 2, rfl, rfl, div9 (by decide) (by decide), _, rfl, (u : Int), u, (odd + 1) / 2, p, rfl, by omega, p64, by show _ < 18446744073709551616; omega, (Int.natCast_emod u p).symm, ?_⟩
      refine ⟨_, rfl, _, rfl, _, rfl, (u : Int), u, odd, p, rfl, by omega, p64, by show _ < 18446744073709551616; omega, (Int.natCast_emod u p).symm, ?_⟩
      refine ⟨_, rfl, p, z, rfl, by omega, p1, hz, _, rfl, _, rfl, (z : Int), z, odd, p, rfl, by omega, p64, by show _ < 18446744073709551616; omega, (Int.natCast_emod z p).symm, ?_⟩
      refine ⟨fun t σ H' => ∃ (f root rest turn many : Nat) (x7 x8 : Option V), σ = [some (.int (u : Int)), some (.int (p : Int)), some (.int (many : Int)), some (.int (odd : Int)), some (.int (root : Int)), some (.int (rest : Int)), some (.int (turn : Int)), x7, x8] ∧ t = f ∧ H' = H1 ∧ root < p ∧ rest < p ∧ turn < p ∧ many ≤ 100 ∧ prL p f root rest turn many = some r,
        ⟨_, 100, _, _, _, many, none, none, rfl, rfl, rfl, pm _, pm _, pmod_lt (by omega), by omega, hm⟩, ?_⟩
      rintro t σ H' ⟨f, root, rest, turn, many, x7, x8, rfl, rfl, rfl, b1, b2, b3, b4, hr⟩
      obtain ⟨g, rfl⟩ : ∃ g, t = g + 1 := by
        cases t with
        | zero => cases hr
        | succ g => exact ⟨g, rfl⟩
      unfold prL at hr
      refine ⟨_, rfl, _, _, rfl, rfl, _, rfl, wayN2 (fun h => ?_) (fun h => ?_)⟩
      · have e : rest ≠ 1 := by omega
        rw [bifF (beqF e)] at hr
        cases ho : dblL p 100 rest 0 with
        | none =>
          rw [ho] at hr
          cases hr
        | some order =>
          rw [ho] at hr
          dsimp only at hr
          have o1 : order ≤ 100 := by
            have key : ∀ (f x k j : Nat), dblL p f x k = some j → j ≤ k + f := by
              intro f
              induction f with
              | zero => intro x k j h; cases h
              | succ f ih =>
                intro x k j h
                unfold dblL at h
                cases e : x.beq 1 with
                | true =>
                  rw [e] at h
                  have e2 : k = j := Option.some.inj h
                  omega
                | false =>
                  rw [e] at h
                  have := ih _ _ _ (show dblL p f (x * x % p) (k + 1) = some j from h)
                  omega
            have := key _ _ _ _ ho
            omega
          refine ⟨fun σ' H2 => ∃ (root rest turn many : Nat) (x7 x8 : Option V), σ' = [some (.int (u : Int)), some (.int (p : Int)), some (.int (many : Int)), some (.int (odd : Int)), some (.int (root : Int)), some (.int (rest : Int)), some (.int (turn : Int)), x7, x8] ∧ H2 = H' ∧ root < p ∧ rest < p ∧ turn < p ∧ many ≤ 100 ∧ prL p g root rest turn many = some r, ?_, ?_⟩
          · rintro σ' H2 ⟨root, rest, turn, many, x7, x8, e1, e2, e3⟩
            exact ⟨g, by omega, g, root, rest, turn, many, x7, x8, e1, rfl, e2, e3⟩
          · refine ⟨_, rfl, _, rfl, rest, p, order, rfl, by omega, p1, b2, ho, ?_⟩
            refine ⟨_, rfl, _, rfl, _, _, rfl, rfl, _, _, rfl, rfl, _, rfl, by omega, by omega, ?_⟩
            have em : ((many : Int) - (order : Int) - 1).toNat = many - order - 1 := by omega
            rw [em]
            refine for_range (lo := 0) (n := many - order - 1) (fun i σ H2 => ∃ (x8 : Option V), σ = [some (.int (u : Int)), some (.int (p : Int)), some (.int (many : Int)), some (.int (odd : Int)), some (.int (root : Int)), some (.int (rest : Int)), some (.int ((sqN p i turn : Nat) : Int)), some (.int (order : Int)), x8] ∧ H2 = H') ⟨x8, rfl, rfl⟩ (fun i σ H2 hi ⟨x8, e1, e2⟩ => ?_) (fun σ H2 ⟨x8, e1, e2⟩ => ?_)
            · subst e1 e2
              have c1 := sqN_lt (p := p) (by omega) (k := i) b3
              refine ⟨_, rfl, _, rfl, _, _, rfl, rfl, .inl (Nat.lt_trans c1 p64), _, rfl, _, p, rfl, rfl, by omega, some (.int ((0 : Int) + (i : Int))), ?_, rfl⟩
              rw [sqN_succ]
              rfl
            · subst e1 e2
              have c1 := sqN_lt (p := p) (by omega) (k := many - order - 1) b3
              generalize sqN p (many - order - 1) turn = t2 at hr c1 ⊢
              have c64 := Nat.lt_trans c1 p64
              refine ⟨_, rfl, _, rfl, root, t2, rfl, rfl, .inr c64, _, rfl, _, p, rfl, rfl, by omega, ?_⟩
              refine ⟨_, rfl, _, rfl, t2, t2, rfl, rfl, .inr c64, _, rfl, _, p, rfl, rfl, by omega, ?_⟩
              refine ⟨_, rfl, _, rfl, rest, _, rfl, rfl, .inl (Nat.lt_trans b2 p64), _, rfl, _, p, rfl, rfl, by omega, _, rfl, ?_⟩
              exact ⟨_, _, _, order, _, _, rfl, rfl, Nat.mod_lt _ (by omega), Nat.mod_lt _ (by omega), Nat.mod_lt _ (by omega), o1, hr⟩
      · have e : rest = 1 := by omega
        rw [bifT (beqT e)] at hr
        have e2 : root = r := Option.some.inj hr
        subst e2
        exact ⟨_, rfl, q H' st⟩
def spUnitRoots (_ : PySem.W.Frag) : Sp := fun vs H Q _ => ∃ (u p k : Nat), vs = [.int (u : Int), .int (p : Int), .int ((k + 1 : Nat) : Int)] ∧ (p = 2 ∨ PrimeOk p) ∧ u % p ≠ 0 ∧ u < 2 ^ 60 ∧ k < 49 ∧ p ^ (k + 1) < 2 ^ 60 ∧
  ∀ H' r ns, Same H H' → H r = none → H' r = some (.lst (ns.map V.int)) → Rts (u : Int) (p ^ (k + 1)) ns → ns.length ≤ 4 → Q (.ref r) H'
theorem okUnitRoots (T : Txt K mg fa fd) : FnOk P w K mg base CX0 5 (fa 16) (fd 16) ["unit", "p", "many"] (spUnitRoots K) := by
  refine T.F__unit_roots.ok scUnitRoots (fun vs H Q E h => ?_) (fun cdv A outer s H vs Q E hr h => ?_)
  · obtain ⟨u, p, k, rfl, hp, hu, u1, k1, hP, q⟩ := h
    rfl
  · obtain ⟨u, p, k, rfl, hp, hu, u1, k1, hP, q⟩ := h
    refine ⟨_, (pss_cons (ps_if (pt_cmp (pc_eqI (pv 1) pe_int))
      (pss_one (ps_ret (pe_call (okUnitRootsOfTwo T) (hr.mono (by decide)) (by rfl) T.G__unit_roots_of_two T.F__unit_roots_of_two.kp T.B__unit_roots_of_two .nil pass0 (pa_cons (pv 0) (pa_cons (pv 2) pa_nil)))))
      pss_nil)
      (pss_cons (ps_if (pt_not (pt_val (pe_call (okIsResidue T) (hr.mono (by decide)) (by rfl) T.G_is_residue T.F_is_residue.kp T.B_is_residue .nil pass0 (pa_cons (pv 0) (pa_cons (pv 1) pa_nil)))))
      (pss_one (ps_ret (pe_lst pa_nil)))
      pss_nil)
      (pss_cons (ps_set (i := 3) scUnitRoots.nd rfl (Or.inl rfl) (pe_call (okLiftedRoot T) (hr.mono (by decide)) (by rfl) T.G__lifted_root T.F__lifted_root.kp T.B__lifted_root .nil pass0 (pa_cons (pe_call (okPrimeRoot T) hr (by rfl) T.G__prime_root T.F__prime_root.kp T.B__prime_root .nil pass0 (pa_cons (pe_op modNN (pv 0) (pv 1)) (pa_cons (pv 1) pa_nil))) (pa_cons (pv 0) (pa_cons (pv 1) (pa_cons (pv 2) pa_nil))))))
      (pss_one (ps_ret (pe_lst (pa_cons (pv 3) (pa_cons (pe_op op_sub (pe_call (okPower T) (hr.mono (by decide)) (by rfl) T.G_power T.F_power.kp T.B_power .nil pass0 (pa_cons (pv 1) (pa_cons (pv 2) pa_nil))) (pv 3)) pa_nil)))))))), ?_⟩
    have u1' : u < 1152921504606846976 := u1
    have hP' : p ^ (k + 1) < 1152921504606846976 := hP
    have p2 : 2 ≤ p := by
      rcases hp with e | e
      · omega
      · exact e.pr.1
    have pP : p ≤ p ^ (k + 1) := Nat.le_self_pow (by omega) p
    have p60 : p < 2 ^ 60 := by show p < 1152921504606846976; omega
    refine ⟨_, rfl, _, _, rfl, rfl, _, rfl, way2 (fun h => ?_) (fun h => ?_)⟩
    · have e : p = 2 := by omega
      subst e
      exact ⟨_, rfl, _, rfl, (u : Int), k + 1, rfl, by omega, by omega, by omega, q⟩
    · have hp : PrimeOk p := by
        rcases hp with e | e
        · omega
        · exact e
      have p3 : 2 < p := by have := hp.odd; omega
      refine ⟨_, rfl, _, rfl, (u : Int), u, p, rfl, by omega, p60, (Int.natCast_emod u p).symm, _, rfl, ?_⟩
      cases hr : resM u p with
      | false =>
        refine iteT ⟨Nat.zero_le _, fun r nr => q _ r [] (same_upd nr) nr upd_same ⟨List.nodup_nil, fun x => ⟨(fun hx => nomatch hx), fun ⟨a, b, c⟩ => (no_root hp hu hr a c).elim⟩⟩ (by decide)⟩
      | true =>
        obtain ⟨r0, hr0, r1, r2⟩ := prM_some hp hu hr
        refine iteF ⟨_, rfl, _, rfl, u, p, rfl, rfl, by omega, _, rfl, u % p, p, r0, rfl, p3, p60, hr0, fun H1 s1 => ?_⟩
        have hrz : (p : Int) ∣ (r0 : Int) * (r0 : Int) - (u : Int) := by
          refine Int.dvd_of_emod_eq_zero (Int.emod_eq_emod_iff_emod_sub_eq_zero.mp ?_)
          rw [← Int.natCast_mul, ← Int.natCast_emod, ← Int.natCast_emod, r2]
        have h2 : ¬ (p : Int) ∣ 2 * (r0 : Int) := by
          intro hd
          rcases hp.pr.2 _ _ hd with ⟨c, hc⟩ | ⟨c, hc⟩
          · have c1 : 1 ≤ c := by
              by_cases z : 1 ≤ c
              · exact z
              · have := Int.mul_le_mul_of_nonneg_left (show c ≤ 0 by omega) (show (0 : Int) ≤ (p : Int) by omega)
                omega
            have := Int.mul_le_mul_of_nonneg_left c1 (show (0 : Int) ≤ (p : Int) by omega)
            omega
          · obtain ⟨w, hw⟩ := hrz
            have e : (u : Int) = (p : Int) * (c * (r0 : Int) - w) := by
              rw [Int.mul_sub, ← hw, ← Int.mul_assoc, ← hc]
              omega
            have e2 : (u : Int) % (p : Int) = 0 := by rw [e]; exact Int.mul_emod_right _ _
            rw [← Int.natCast_emod] at e2
            omega
        refine ⟨_, rfl, _, rfl, _, rfl, (r0 : Int), (u : Int), p, k, rfl, hp.pr, by omega, by omega, h2, hrz, hP, by omega, Nat.lt_trans (show (u : Int).natAbs < 2 ^ 60 by rw [Int.natAbs_natCast]; exact u1) (by decide), fun H2 x s2 x0 x1 hx hxr => ?_⟩
        have hx2 : ¬ (p : Int) ∣ 2 * x := by
          rintro ⟨c, hc⟩
          obtain ⟨w, hw⟩ := hxr
          exact h2 ⟨c - 2 * w, by rw [Int.mul_sub, ← hc, show (p : Int) * (2 * w) = 2 * ((p : Int) * w) by grind, ← hw]; omega⟩
        refine ⟨_, rfl, _, rfl, _, rfl, p, k + 1, rfl, Nat.lt_trans p60 (by decide), by show k + 1 < 1152921504606846976; omega, _, rfl, _, _, rfl, rfl, by show 2 ≤ sizeLine; decide, fun t nt => ?_⟩
        have s3 := s1.trans s2
        have nt0 : H t = none := Same.free s3 nt
        exact q _ t [x, ((p ^ (k + 1) : Nat) : Int) - x] (s3.trans (same_upd nt)) nt0 upd_same (unit_rts hp.pr hx2 hx x0 x1) (Nat.le_of_lt (by show 2 < 4; decide))
def spPowerRoots (_ : PySem.W.Frag) : Sp := fun vs H Q _ => ∃ (z : Int) (p k : Nat), vs = [.int z, .int (p : Int), .int (k : Int)] ∧ (p = 2 ∨ PrimeOk p) ∧ 1 ≤ k ∧ k < 49 ∧ p ^ k ≤ 100000000 ∧
  ∀ H' r ns, Same H H' → H r = none → H' r = some (.lst (ns.map V.int)) → Rts z (p ^ k) ns → ns.length ≤ 4 * p ^ (k / 2) → Q (.ref r) H'
theorem half_le {p k : Nat} (hp : 2 ≤ p) (h : p ^ k ≤ 100000000) : p ^ (k / 2) ≤ 10000 := by
  by_cases z : p ^ (k / 2) ≤ 10000
  · exact z
  · have h1 : 10001 * 10001 ≤ p ^ (k / 2) * p ^ (k / 2) := Nat.mul_le_mul (by omega) (by omega)
    rw [← Nat.pow_add] at h1
    have h2 : p ^ (k / 2 + k / 2) ≤ p ^ k := Nat.pow_le_pow_right (by omega) (by omega)
    omega
theorem okPowerRoots (T : Txt K mg fa fd) : FnOk P w K mg base CX0 6 (fa 15) (fd 15) ["d", "p", "many"] (spPowerRoots K) := by
  refine T.F__power_roots.ok scPowerRoots (fun vs H Q E h => ?_) (fun cdv A outer s H vs Q E hr h => ?_)
  · obtain ⟨z, p, k, rfl, hp, k1, k2, hP, q⟩ := h
    rfl
  · obtain ⟨z, p, k, rfl, hp, k1, k2, hP, q⟩ := h
    refine ⟨_, (pss_cons (ps_set (i := 3) scPowerRoots.nd rfl (Or.inl rfl) (pe_call (okPower T) (hr.mono (by decide)) (by rfl) T.G_power T.F_power.kp T.B_power .nil pass0 (pa_cons (pv 1) (pa_cons (pv 2) pa_nil))))
      (pss_cons (ps_set (i := 4) scPowerRoots.nd rfl (Or.inl rfl) (pe_op op_mod (pv 0) (pv 3)))
      (pss_cons (ps_if (pt_cmp (pc_eqI (pv 4) pe_int))
      (pss_one (ps_ret (pe_listRg3 (by rfl) (by rfl) T.m_list (by rfl) T.m_range pe_int (pv 3) (pe_call (okPower T) (hr.mono (by decide)) (by rfl) T.G_power T.F_power.kp T.B_power .nil pass0 (pa_cons (pv 1) (pa_cons (pe_op op_subN (pv 2) (pe_op divNN (pv 2) pe_int)) pa_nil))))))
      pss_nil)
      (pss_cons (ps_asg (pe_call (okTakenOut T) (hr.mono (by decide)) (by rfl) T.G_taken_out T.F_taken_out.kp T.B_taken_out .nil pass0 (pa_cons (pv 4) (pa_cons (pv 1) pa_nil))) (pg_tup (by rfl) (pgs_cons (pg_name (i := 5) scPowerRoots.nd rfl (Or.inl rfl)) (pgs_cons (pg_name (i := 6) scPowerRoots.nd rfl (Or.inl rfl)) pgs_nil))))
      (pss_cons (ps_if (pt_cmp (pc_eqI (pe_op modNN (pv 5) pe_int) pe_int))
      (pss_one (ps_ret (pe_lst pa_nil)))
      pss_nil)
      (pss_cons (ps_set (i := 7) scPowerRoots.nd rfl (Or.inr rfl) (pe_call (okPower T) (hr.mono (by decide)) (by rfl) T.G_power T.F_power.kp T.B_power .nil pass0 (pa_cons (pv 1) (pa_cons (pe_op divNN (pv 5) pe_int) pa_nil))))
      (pss_cons (ps_set (i := 8) scPowerRoots.nd rfl (Or.inr rfl) (pe_call (okPower T) (hr.mono (by decide)) (by rfl) T.G_power T.F_power.kp T.B_power .nil pass0 (pa_cons (pv 1) (pa_cons (pe_op op_subN (pv 2) (pv 5)) pa_nil))))
      (pss_one (ps_ret (pe_lc2 (own := [("root", 9), ("k", 10)]) (vs1 := [10]) (g := gName 9) (g1 := gName 10) (tt := tYes) (tt1 := tYes) rfl scPowerRoots.nd (piL K (pe_call (okUnitRoots T) hr (by rfl) T.G__unit_roots T.F__unit_roots.kp T.B__unit_roots .nil pass0 (pa_cons (pv 6) (pa_cons (pv 1) (pa_cons (pe_op op_subN (pv 2) (pv 5)) pa_nil))))) (blkOk_by (own := [("root", 9), ("k", 10)]) (N := ["d", "p", "many", "modulus", "rest", "inside", "unit", "half", "step", "root", "k"]) (sc := defScope sPowerRoots) (by decide +kernel)) (by decide) (fun _ _ _ _ _ => (pg_name (i := 9) scPowerRoots.nd rfl (Or.inl rfl))) (fun _ _ _ _ _ => pts_nil) (fun _ _ _ _ _ => (pi_range1 (by rfl) T.m_range (pa_cons (pv 7) pa_nil))) (fun _ _ _ _ _ => (pg_name (i := 10) scPowerRoots.nd rfl (Or.inl rfl))) (fun _ _ _ _ _ => pts_nil) (fun _ _ _ _ _ => (pe_op op_mul (pv 7) (pe_op op_add (pv 9) (pe_op op_mul (pv 8) (pv 10))))))))))))))), ?_⟩
    have pr : Pr p := by
      rcases hp with e | e
      · rw [e]
        exact pr_two
      · exact e.pr
    have p2 := pr.1
    have pP : p ≤ p ^ k := Nat.le_self_pow (by omega) p
    have M0 : 0 < p ^ k := Nat.pow_pos (by omega)
    have hh := half_le p2 hP
    have p64 : p < 2 ^ 64 := by show p < 18446744073709551616; omega
    refine ⟨_, rfl, _, rfl, p, k, rfl, p64, by show k < 1152921504606846976; omega, ?_⟩
    refine ⟨_, rfl, _, rfl, _, _, rfl, rfl, by show (0 : Int) < ((p ^ k : Nat) : Int); omega, ?_⟩
    have r0 := Int.emod_nonneg z (show ((p ^ k : Nat) : Int) ≠ 0 by omega)
    have r1 := Int.emod_lt_of_pos z (show (0 : Int) < ((p ^ k : Nat) : Int) by omega)
    have dz : ((p ^ k : Nat) : Int) ∣ z - z % ((p ^ k : Nat) : Int) := ⟨z / ((p ^ k : Nat) : Int), by have := Int.mul_ediv_add_emod z ((p ^ k : Nat) : Int); omega⟩
    dsimp only
    generalize z % ((p ^ k : Nat) : Int) = n0 at r0 r1 dz ⊢
    obtain ⟨n, rfl⟩ := Int.eq_ofNat_of_zero_le r0
    refine ⟨_, rfl, _, _, rfl, rfl, _, rfl, way2 (fun h => ?_) (fun h => ?_)⟩
    · have e : n = 0 := by omega
      subst e
      refine ⟨_, rfl, _, rfl, _, rfl, _, rfl, k, 2, rfl, rfl, div9 (by decide) (by decide), k, k / 2, rfl, rfl, by omega, p, k - k / 2, rfl, p64, by show _ < 1152921504606846976; omega, ?_⟩
      have hM : p ^ (k - k / 2) * p ^ (k / 2) = p ^ k := by rw [← Nat.pow_add]; congr 1; omega
      have c0 : 0 < p ^ (k - k / 2) := Nat.pow_pos (by omega)
      have c1 : p ^ (k - k / 2) ≤ p ^ k := Nat.pow_le_pow_right (by omega) (by omega)
      refine ⟨0, ((p ^ k : Nat) : Int), ((p ^ (k - k / 2) : Nat) : Int), p ^ (k / 2), rfl, rfl, rfl, ?_, by show _ ≤ 16777216; omega, fun r nr => ?_⟩
      · rw [← hM]
        exact rg_mul c0 (by omega) (by rw [hM]; show _ < 1152921504606846976; omega)
      · have R := rts_zero (p := p) (k := k) pr
        have e2 : ((List.range (p ^ (k / 2))).map fun (t : Nat) => V.int (0 + (t : Int) * ((p ^ (k - k / 2) : Nat) : Int))) = ((List.range (p ^ (k / 2))).map fun (t : Nat) => (0 : Int) + (t : Int) * ((p ^ (k - k / 2) : Nat) : Int)).map V.int := by
          rw [List.map_map]
          rfl
        refine q _ r _ (same_upd nr) nr (by rw [upd_same, e2]) (rts_congr dz R) ?_
        rw [List.length_map, List.length_range]
        omega
    · have n0 : 0 < n := by omega
      have n64 : n < 2 ^ 64 := by show n < 18446744073709551616; omega
      refine ⟨_, rfl, _, rfl, n, p, rfl, n0, n64, p2, p64, fun t nt => ?_⟩
      have st := same_upd (o := .tup [.int ((takenOut n p).1 : Int), .int ((takenOut n p).2 : Int)]) nt
      refine ⟨t, _, rfl, SqT.of upd_same, rfl, _, _, rfl, _, _, rfl, rfl, ?_⟩
      generalize upd H t (.tup [.int ((takenOut n p).1 : Int), .int ((takenOut n p).2 : Int)]) = H1 at st ⊢
      obtain ⟨j, hj, hn, hw⟩ := toL_spec (p := p) p2 (f := 64) (n := n) (k := 0) n0 n64
      change (takenOut n p).1 = 0 + j at hj
      change n = p ^ j * (takenOut n p).2 at hn
      change (takenOut n p).2 % p ≠ 0 at hw
      rw [hj, Nat.zero_add]
      generalize (takenOut n p).2 = w at hn hw ⊢
      have w0 : 0 < w := by
        cases w with
        | zero => rw [Nat.zero_mod] at hw; exact absurd rfl hw
        | succ w => omega
      have jn : p ^ j ≤ n := by rw [hn]; exact Nat.le_mul_of_pos_right _ w0
      have wn : w ≤ n := by rw [hn]; exact Nat.le_mul_of_pos_left _ (Nat.pow_pos (by omega))
      have jk : j < k := by
        by_cases zz : j < k
        · exact zz
        · have := Nat.pow_le_pow_right (show 0 < p by omega) (show k ≤ j by omega)
          omega
      refine ⟨_, rfl, j, 2, rfl, rfl, by decide, _, _, rfl, rfl, _, rfl, way2 (fun h => ?_) (fun h => ?_)⟩
      · refine ⟨Nat.zero_le _, fun r nr => ?_⟩
        have R := rts_odd (k := k) (j := j) pr (by omega) jk hw
        rw [← hn] at R
        exact q _ r [] (st.trans (same_upd nr)) (Same.free st nr) upd_same (rts_congr dz R) (Nat.zero_le _)
      · obtain ⟨i, rfl⟩ : ∃ i, j = 2 * i := ⟨j / 2, by omega⟩
        have ei : 2 * i / 2 = i := by omega
        refine ⟨_, rfl, _, rfl, 2 * i, 2, rfl, rfl, div9 (by decide) (by decide), ?_⟩
        rw [ei]
        refine ⟨p, i, rfl, p64, by show i < 1152921504606846976; omega, ?_⟩
        refine ⟨_, rfl, _, rfl, _, rfl, k, 2 * i, rfl, rfl, by omega, p, k - 2 * i, rfl, p64, by show _ < 1152921504606846976; omega, ?_⟩
        have sk : p ^ (k - 2 * i) ≤ p ^ k := Nat.pow_le_pow_right (by omega) (by omega)
        have ai : p ^ i ≤ p ^ (k / 2) := Nat.pow_le_pow_right (by omega) (by omega)
        obtain ⟨k', hk'⟩ : ∃ k', k - 2 * i = k' + 1 := ⟨k - 2 * i - 1, by omega⟩
        refine ⟨_, rfl, _, rfl, _, rfl, _, rfl, k, 2 * i, rfl, rfl, by omega, w, p, k', congrArg (fun t : Nat => [V.int (w : Int), V.int (p : Int), V.int (t : Int)]) hk', hp, hw, by show w < 1152921504606846976; omega, by omega, by rw [← hk']; show _ < 1152921504606846976; omega, fun H2 r ns s2 nr hr R nl => ?_⟩
        rw [← hk'] at R
        refine ⟨r, rfl, ⟨_, SqL.of hr⟩, fun D nD => ?_⟩
        let F : Int → Nat → Int := fun y t => ((p ^ i : Nat) : Int) * (y + ((p ^ (k - 2 * i) : Nat) : Int) * (t : Int))
        have hF : ∀ y t, F y t = ((p ^ i : Nat) : Int) * (y + ((p ^ (k - 2 * i) : Nat) : Int) * (t : Int)) := fun _ _ => rfl
        refine out_list (K := K) (a := r) (xs := ns.map V.int) (fun m H3 => Same H2 H3 ∧ H3 D = some (.lst (((ns.take m).flatMap fun y => (List.range (p ^ i)).map (F y)).map V.int))) ⟨same_upd nD, upd_same⟩ (fun m H3 hm ⟨a1, a2⟩ => SqL.of (a1 _ _ hr)) (fun m x H3 hx ⟨a1, a2⟩ => ?_) (fun H3 ⟨a1, a2⟩ => ?_)
        · rw [List.getElem?_map] at hx
          cases hn2 : ns[m]? with
          | none =>
            rw [hn2] at hx
            cases hx
          | some y =>
            rw [hn2] at hx
            cases hx
            have tk : ns.take (m + 1) = ns.take m ++ [y] := by
              rw [List.take_add_one, hn2]
              rfl
            refine ⟨rfl, ?_⟩
            dsimp only [tYes]
            rw [if_pos rfl]
            refine ⟨_, rfl, _, rfl, by omega, by omega, ?_⟩
            have ea : ((p ^ i : Nat) : Int).toNat = p ^ i := rfl
            rw [ea]
            refine out_range (lo := 0) (n := p ^ i) (fun t H4 => Same H2 H4 ∧ H4 D = some (.lst ((((ns.take m).flatMap fun y => (List.range (p ^ i)).map (F y)) ++ (List.range t).map (F y)).map V.int))) ⟨a1, ?_⟩ (fun t H4 ht ⟨b1, b2⟩ => ?_) (fun H4 ⟨b1, b2⟩ => ⟨b1, ?_⟩)
            · rw [a2]
              simp
            · refine ⟨rfl, ?_⟩
              dsimp only [tYes]
              rw [if_pos rfl]
              refine ⟨_, rfl, _, rfl, _, rfl, _, rfl, _, _, rfl, rfl, .inl ⟨by omega, by omega⟩, _, _, rfl, rfl, _, _, rfl, rfl, .inl ⟨by omega, by omega⟩, _, b2, ?_, fun b o e => ?_, ?_⟩
              · rw [List.length_map, List.length_append, len2, List.length_map, List.length_range, List.length_range]
                have l1 : (ns.take m).length ≤ 4 := by rw [List.length_take]; omega
                have l2 := Nat.mul_le_mul l1 (show p ^ i ≤ 10000 by omega)
                exact Nat.lt_of_lt_of_le (show _ < 100000 by omega) (by decide)
              · rw [upd_ne (ne_of_none e nD)]
                exact b1 _ _ e
              · have e5 : ((ns.take m).flatMap fun y => (List.range (p ^ i)).map (F y)) ++ (List.range (t + 1)).map (F y) = (((ns.take m).flatMap fun y => (List.range (p ^ i)).map (F y)) ++ (List.range t).map (F y)) ++ [F y t] := by
                  rw [List.range_succ, List.map_append, List.append_assoc]
                  rfl
                have e6 : (0 : Int) + (t : Int) = (t : Int) := Int.zero_add _
                rw [upd_same, e5, e6]
                exact congrArg (fun z => some (HO.lst z)) (List.map_append (f := V.int) (l₂ := [F y t])).symm
            · rw [b2, tk, List.flatMap_append, List.flatMap_cons, List.flatMap_nil, List.append_nil]
        · rw [List.length_map, List.take_length] at a2
          have R2 := rts_even (k := k) (i := i) pr (by omega) R
          rw [← hn] at R2
          have nD0 : H D = none := Same.free (st.trans s2) nD
          refine q _ D _ ((st.trans s2).trans a1) nD0 a2 (rts_congr dz R2) ?_
          rw [len2, List.length_range]
          exact Nat.mul_le_mul nl ai
def spSquareRoots (_ : PySem.W.Frag) : Sp := fun vs H Q _ => ∃ (z : Int) (m : Nat) (l : List (Nat × Nat)), vs = [.int z, .int (m : Int)] ∧ 0 < m ∧ m ≤ 100000000 ∧ FacOk m l ∧
  ∀ H' r ns, Same H H' → H r = none → H' r = some (.lst (ns.map V.int)) → Rts z m ns → ns.Pairwise (· ≤ ·) → Q (.ref r) H'
def rSortedQ (K : PySem.W.Frag) : List V → Hp → VK → Prop := fun vs H Q => ∃ (a : Addr) (ns : List Int), vs = [V.ref a] ∧ SqL K H a (ns.map V.int) ∧ ∀ (ns' : List Int) (p : Addr), ns'.Perm ns → ns'.Pairwise (· ≤ ·) → H p = none → Q (.ref p) (upd H p (.lst (ns'.map V.int)))
theorem sortedQ {X : Cx} (K : PySem.W.Frag) (h : X.K = K := by rfl) : CallR X (.builtin "sorted") (rSortedQ K) := by subst h; exact cr_sortedI
theorem rts_perm {z : Int} {m : Nat} {L L' : List Int} (R : Rts z m L) (h : L'.Perm L) : Rts z m L' := ⟨h.nodup_iff.mpr R.1, fun x => (h.mem_iff).trans (R.2 x)⟩
theorem okSquareRoots (T : Txt K mg fa fd) : FnOk P w K mg base CX0 7 (fa 8) (fd 8) ["d", "m"] (spSquareRoots K) := by
  refine T.F_square_roots.ok scSquareRoots (fun vs H Q E h => ?_) (fun cdv A outer s H vs Q E hr h => ?_)
  · obtain ⟨z, m, l, rfl, m0, m1, hf, q⟩ := h
    rfl
  · obtain ⟨z, m, l, rfl, m0, m1, hf, q⟩ := h
    refine ⟨_, (pss_cons (ps_set (i := 2) scSquareRoots.nd rfl (Or.inl rfl) (pe_lst (pa_cons pe_int pa_nil)))
      (pss_cons (ps_set (i := 3) scSquareRoots.nd rfl (Or.inl rfl) pe_int)
      (pss_cons (ps_for PassesOwn.never rfl (piL K (pe_call (okPrimeParts T) (hr.mono (by decide)) (by rfl) T.G_prime_parts T.F_prime_parts.kp T.B_prime_parts .nil pass0 (pa_cons (pv 1) pa_nil))) (pg_tup (by rfl) (pgs_cons (pg_name (i := 4) scSquareRoots.nd rfl (Or.inl rfl)) (pgs_cons (pg_name (i := 5) scSquareRoots.nd rfl (Or.inl rfl)) pgs_nil)))
      (pss_cons (ps_set (i := 6) scSquareRoots.nd rfl (Or.inl rfl) (pe_call (okPower T) (hr.mono (by decide)) (by rfl) T.G_power T.F_power.kp T.B_power .nil pass0 (pa_cons (pv 4) (pa_cons (pv 5) pa_nil))))
        (pss_cons (ps_set (i := 2) scSquareRoots.nd rfl (Or.inl rfl) (pe_call (okJoined T) (hr.mono (by decide)) (by rfl) T.G__joined T.F__joined.kp T.B__joined .nil pass0 (pa_cons (pv 2) (pa_cons (pv 3) (pa_cons (pe_call (okPowerRoots T) hr (by rfl) T.G__power_roots T.F__power_roots.kp T.B__power_roots .nil pass0 (pa_cons (pv 0) (pa_cons (pv 4) (pa_cons (pv 5) pa_nil)))) (pa_cons (pv 6) pa_nil))))))
        (pss_one (ps_set (i := 3) scSquareRoots.nd rfl (Or.inl rfl) (pe_op mulNN (pv 3) (pv 6)))))))
      (pss_one (ps_ret (pe_callB (sortedQ K) (by rfl) T.m_sorted (by decide +kernel) (pa_cons (pv 2) pa_nil))))))), ?_⟩
    refine ⟨by show 1 ≤ sizeLine; decide, fun R0 nR0 => ?_⟩
    have hR0 : (upd H R0 (.lst [.int 0])) R0 = some (.lst (([0] : List Int).map V.int)) := upd_same
    have sR := same_upd (o := .lst [.int 0]) nR0
    refine ⟨_, rfl, m, l, rfl, m0, by show m < 576460752303423488; omega, hf.pp, fun H1 A as s1 nA hA hP hl => ?_⟩
    refine ⟨A, rfl, ⟨_, SqL.of hA⟩, for_list (K := K) (a := A) (xs := as.map V.ref) (fun i σ H' => ∃ (R : Addr) (L : List Int) (x4 x5 x6 : Option V) (M : Nat), σ = [some (.int z), some (.int (m : Int)), some (.ref R), some (.int (M : Int)), x4, x5, x6] ∧ Same H1 H' ∧ H' R = some (.lst (L.map V.int)) ∧ Rts z M L ∧ 0 < M ∧ M * prodP (l.drop i) = m ∧ FacP M (l.drop i) ∧ L.length * lenP (l.drop i) ≤ 16000000)
      ⟨R0, [0], none, none, none, 1, rfl, Same.refl H1, s1 _ _ hR0, ⟨by decide, fun x => ?_⟩, by decide, ?_, hf.fac, ?_⟩ (fun i σ H' hi ⟨R, L, x4, x5, x6, M, e1, e2, _⟩ => SqL.of (e2 _ _ hA)) (fun i x σ H' hx ⟨R, L, x4, x5, x6, M, e1, e2, e3, e4, e5, e6, e7, e8⟩ => ?_) (fun σ H' ⟨R, L, x4, x5, x6, M, e1, e2, e3, e4, e5, e6, e7, e8⟩ => ?_)⟩
    · rw [List.mem_singleton]
      show x = 0 ↔ 0 ≤ x ∧ x < 1 ∧ (1 : Int) ∣ x * x - z
      exact ⟨fun e => ⟨by omega, by omega, ⟨x * x - z, by omega⟩⟩, fun ⟨a, b, _⟩ => by omega⟩
    · rw [List.drop_zero, hf.prod, Nat.one_mul]
    · rw [List.drop_zero]
      show 1 * lenP l ≤ 16000000
      rw [Nat.one_mul]
      exact hf.len
    · subst e1
      rw [List.getElem?_map] at hx
      cases ha : as[i]? with
      | none =>
        rw [ha] at hx
        cases hx
      | some t =>
        rw [ha] at hx
        cases hx
        have il : i < l.length := by
          have h1 := (List.getElem?_eq_some_iff.mp ha).1
          have h2 := hP.len
          unfold nats at h2
          rw [List.length_map] at h2
          omega
        obtain ⟨⟨p, k⟩, hpk⟩ : ∃ pk, l[i]? = some pk := ⟨_, List.getElem?_eq_getElem il⟩
        have hd : l.drop i = (p, k) :: l.drop (i + 1) := by
          rw [List.drop_eq_getElem_cons il]
          congr 1
          rw [List.getElem?_eq_getElem il] at hpk
          exact Option.some.inj hpk
        have hn : (nats l)[i]? = some ((p : Int), (k : Int)) := by
          unfold nats
          rw [List.getElem?_map, hpk]
          rfl
        obtain ⟨t', ht1, ht2⟩ := hP.at hn
        rw [ha] at ht1
        cases ht1
        rw [hd] at e6 e7 e8
        obtain ⟨f1, f2, f3, f4, f5, f6⟩ := e7
        have e6' : M * (p ^ k * prodP (l.drop (i + 1))) = m := e6
        have e8' : L.length * (4 * p ^ (k / 2) * lenP (l.drop (i + 1))) ≤ 16000000 := e8
        have P0 : 0 < p ^ k := by
          refine Nat.pow_pos ?_
          rcases f1 with e | e
          · omega
          · have := e.pr.1
            omega
        have Mm : M ≤ m := by
          rw [← e6']
          refine Nat.le_mul_of_pos_right _ ?_
          cases hz : p ^ k * prodP (l.drop (i + 1)) with
          | zero =>
            rw [hz] at e6'
            omega
          | succ n => omega
        have pP : p ≤ p ^ k := Nat.le_self_pow (by omega) p
        refine ⟨t, _, rfl, SqT.of (e2 _ _ ht2), rfl, _, _, rfl, _, _, rfl, rfl, ?_⟩
        refine ⟨_, rfl, _, rfl, p, k, rfl, by show p < 18446744073709551616; omega, by show k < 1152921504606846976; omega, ?_⟩
        refine ⟨_, rfl, _, rfl, _, rfl, _, rfl, _, rfl, z, p, k, rfl, f1, f2, f3, f4, fun H2 r ns s2 nr hr R2 nl => ?_⟩
        have lp : 1 ≤ lenP (l.drop (i + 1)) ∨ lenP (l.drop (i + 1)) = 0 := by omega
        have ll : L.length * ns.length ≤ L.length * (4 * p ^ (k / 2)) := Nat.mul_le_mul_left _ nl
        have l0 : 0 < lenP (l.drop (i + 1)) := by
          have key : ∀ (q : List (Nat × Nat)) (a : Nat), FacP a q → 0 < lenP q := by
            intro q
            induction q with
            | nil => intro a _; exact Nat.one_pos
            | cons x q ih =>
              intro a h
              obtain ⟨p, k⟩ := x
              obtain ⟨g1, _, _, _, _, g6⟩ := h
              have p0 : 0 < p := by
                rcases g1 with e | e
                · omega
                · have := e.pr.1
                  omega
              have a1 : 0 < p ^ (k / 2) := Nat.pow_pos p0
              exact Nat.mul_pos (by omega) (ih _ g6)
          exact key _ _ f6
        have big : L.length * ns.length * lenP (l.drop (i + 1)) ≤ 16000000 := by
          refine Nat.le_trans (Nat.mul_le_mul_right _ ll) ?_
          rw [Nat.mul_assoc]
          exact e8'
        have big1 : L.length * ns.length ≤ 16000000 := Nat.le_trans (Nat.le_mul_of_pos_right _ l0) big
        refine ⟨_, rfl, R, r, M, p ^ k, L, ns, z, rfl, s2 _ _ e3, hr, e5, P0, by show M < 1152921504606846976; omega, by show _ < 1152921504606846976; omega, ?_, e4, R2, big1, fun H3 J js s3 nJ hJ RJ lJ => ?_⟩
        · unfold gI
          rw [Int.natAbs_natCast, Int.natAbs_natCast, f5]
          rfl
        refine ⟨_, rfl, _, rfl, M, p ^ k, rfl, rfl, .inl (by show M < 18446744073709551616; omega), J, js, _, _, _, M * p ^ k, rfl, (e2.trans s2).trans s3, hJ, RJ, Nat.mul_pos e5 P0, ?_, f6, ?_⟩
        · rw [Nat.mul_assoc]
          exact e6'
        · rw [lJ]
          exact big
    · subst e1
      have el : l.drop (as.map V.ref).length = [] := by
        have h2 := hP.len
        unfold nats at h2
        rw [List.length_map] at h2
        rw [List.length_map, h2]
        exact List.drop_length
      rw [el] at e6
      have eM : M = m := by
        have : M * 1 = m := e6
        omega
      subst eM
      refine ⟨_, rfl, R, L, rfl, SqL.of e3, fun ns' r perm srt nr => ?_⟩
      have sA := (sR.trans s1).trans e2
      exact q _ r ns' (sA.trans (same_upd nr)) (Same.free sA nr) upd_same (rts_perm e4 perm) srt
def spCountUnitRoots (_ : PySem.W.Frag) : Sp := fun vs H Q _ => ∃ u p k : Nat, vs = [.int (u : Int), .int (p : Int), .int (k : Int)] ∧ 1 < p ∧ p < 2 ^ 60 ∧ 1 ≤ k ∧ Q (.int ((cntU u p k : Nat) : Int)) H
theorem okCountUnitRoots (T : Txt K mg fa fd) : FnOk P w K mg base CX0 3 (fa 14) (fd 14) ["unit", "p", "many"] (spCountUnitRoots K) := by
  refine T.F__count_unit_roots.ok scCountUnitRoots (fun vs H Q E h => ?_) (fun cdv A outer s H vs Q E hr h => ?_)
  · obtain ⟨u, p, k, rfl, p0, p1, k1, q⟩ := h
    rfl
  · obtain ⟨u, p, k, rfl, p0, p1, k1, q⟩ := h
    refine ⟨_, (pss_cons (ps_if (pt_cmp (pc_gt (pv 1) pe_int))
      (pss_one (ps_ret (pe_ifExp (pt_val (pe_call (okIsResidue T) hr (by rfl) T.G_is_residue T.F_is_residue.kp T.B_is_residue .nil pass0 (pa_cons (pv 0) (pa_cons (pv 1) pa_nil)))) pe_int pe_int)))
      pss_nil)
      (pss_cons (ps_if (pt_cmp (pc_eqI (pv 2) pe_int))
      (pss_one (ps_ret pe_int))
      pss_nil)
      (pss_cons (ps_if (pt_cmp (pc_eqI (pv 2) pe_int))
      (pss_one (ps_ret (pe_ifExp (pt_cmp (pc_eqI (pe_op modNN (pv 0) pe_int) pe_int)) pe_int pe_int)))
      pss_nil)
      (pss_one (ps_ret (pe_ifExp (pt_cmp (pc_eqI (pe_op modNN (pv 0) pe_int) pe_int)) pe_int pe_int)))))), ?_⟩
    unfold cntU at q
    refine ⟨_, rfl, _, _, rfl, rfl, _, rfl, way2 (fun h => ?_) (fun h => ?_)⟩
    · have p3 : 2 < p := by omega
      rw [if_pos p3] at q
      refine ⟨_, rfl, _, rfl, (u : Int), u, p, rfl, p0, p1, (Int.natCast_emod u p).symm, _, rfl, ?_⟩
      cases e : resM u p with
      | true =>
        rw [e, if_pos rfl] at q
        exact iteT q
      | false =>
        rw [e, if_neg (by decide)] at q
        exact iteF q
    · have p3 : ¬ 2 < p := by omega
      rw [if_neg p3] at q
      refine ⟨_, rfl, _, _, rfl, rfl, _, rfl, way2 (fun h1 => ?_) (fun h1 => ?_)⟩
      · have e : k = 1 := by omega
        rw [if_pos e] at q
        exact q
      · have e : k ≠ 1 := by omega
        rw [if_neg e] at q
        refine ⟨_, rfl, _, _, rfl, rfl, _, rfl, way2 (fun h2 => ?_) (fun h2 => ?_)⟩
        · have e2 : k = 2 := by omega
          rw [if_pos e2] at q
          refine ⟨_, rfl, u, 4, rfl, rfl, by decide, _, _, rfl, rfl, _, rfl, way2 (fun h3 => ?_) (fun h3 => ?_)⟩
          · rw [if_pos (by omega)] at q
            exact q
          · rw [if_neg (by omega)] at q
            exact q
        · have e2 : k ≠ 2 := by omega
          rw [if_neg e2] at q
          refine ⟨_, rfl, u, 8, rfl, rfl, by decide, _, _, rfl, rfl, _, rfl, way2 (fun h3 => ?_) (fun h3 => ?_)⟩
          · rw [if_pos (by omega)] at q
            exact q
          · rw [if_neg (by omega)] at q
            exact q
def spCountPowerRoots (_ : PySem.W.Frag) : Sp := fun vs H Q _ => ∃ (z : Int) (p k : Nat), vs = [.int z, .int (p : Int), .int (k : Int)] ∧ (p = 2 ∨ PrimeOk p) ∧ 1 ≤ k ∧ k < 49 ∧ p ^ k ≤ 100000000 ∧
  ∀ H' c L, Same H H' → Rts z (p ^ k) L → L.length = c → Q (.int (c : Int)) H'
theorem okCountPowerRoots (T : Txt K mg fa fd) : FnOk P w K mg base CX0 4 (fa 13) (fd 13) ["d", "p", "many"] (spCountPowerRoots K) := by
  refine T.F__count_power_roots.ok scCountPowerRoots (fun vs H Q E h => ?_) (fun cdv A outer s H vs Q E hr h => ?_)
  · obtain ⟨z, p, k, rfl, hp, k1, k2, hP, q⟩ := h
    rfl
  · obtain ⟨z, p, k, rfl, hp, k1, k2, hP, q⟩ := h
    refine ⟨_, (pss_cons (ps_set (i := 3) scCountPowerRoots.nd rfl (Or.inl rfl) (pe_op op_mod (pv 0) (pe_call (okPower T) (hr.mono (by decide)) (by rfl) T.G_power T.F_power.kp T.B_power .nil pass0 (pa_cons (pv 1) (pa_cons (pv 2) pa_nil)))))
      (pss_cons (ps_if (pt_cmp (pc_eqI (pv 3) pe_int))
      (pss_one (ps_ret (pe_call (okPower T) (hr.mono (by decide)) (by rfl) T.G_power T.F_power.kp T.B_power .nil pass0 (pa_cons (pv 1) (pa_cons (pe_op divNN (pv 2) pe_int) pa_nil)))))
      pss_nil)
      (pss_cons (ps_asg (pe_call (okTakenOut T) (hr.mono (by decide)) (by rfl) T.G_taken_out T.F_taken_out.kp T.B_taken_out .nil pass0 (pa_cons (pv 3) (pa_cons (pv 1) pa_nil))) (pg_tup (by rfl) (pgs_cons (pg_name (i := 4) scCountPowerRoots.nd rfl (Or.inl rfl)) (pgs_cons (pg_name (i := 5) scCountPowerRoots.nd rfl (Or.inl rfl)) pgs_nil))))
      (pss_cons (ps_if (pt_cmp (pc_eqI (pe_op modNN (pv 4) pe_int) pe_int))
      (pss_one (ps_ret pe_int))
      pss_nil)
      (pss_one (ps_ret (pe_op mulNN (pe_call (okPower T) (hr.mono (by decide)) (by rfl) T.G_power T.F_power.kp T.B_power .nil pass0 (pa_cons (pv 1) (pa_cons (pe_op divNN (pv 4) pe_int) pa_nil))) (pe_call (okCountUnitRoots T) hr (by rfl) T.G__count_unit_roots T.F__count_unit_roots.kp T.B__count_unit_roots .nil pass0 (pa_cons (pv 5) (pa_cons (pv 1) (pa_cons (pe_op op_subN (pv 2) (pv 4)) pa_nil))))))))))), ?_⟩
    have pr : Pr p := by
      rcases hp with e | e
      · rw [e]
        exact pr_two
      · exact e.pr
    have p2 := pr.1
    have pP : p ≤ p ^ k := Nat.le_self_pow (by omega) p
    have M0 : 0 < p ^ k := Nat.pow_pos (by omega)
    have p64 : p < 2 ^ 64 := by show p < 18446744073709551616; omega
    refine ⟨_, rfl, _, rfl, _, rfl, p, k, rfl, p64, by show k < 1152921504606846976; omega, ?_⟩
    refine ⟨_, _, rfl, rfl, by show (0 : Int) < ((p ^ k : Nat) : Int); omega, ?_⟩
    have r0 := Int.emod_nonneg z (show ((p ^ k : Nat) : Int) ≠ 0 by omega)
    have r1 := Int.emod_lt_of_pos z (show (0 : Int) < ((p ^ k : Nat) : Int) by omega)
    have dz : ((p ^ k : Nat) : Int) ∣ z - z % ((p ^ k : Nat) : Int) := ⟨z / ((p ^ k : Nat) : Int), by have := Int.mul_ediv_add_emod z ((p ^ k : Nat) : Int); omega⟩
    dsimp only
    generalize z % ((p ^ k : Nat) : Int) = n0 at r0 r1 dz ⊢
    obtain ⟨n, rfl⟩ := Int.eq_ofNat_of_zero_le r0
    refine ⟨_, rfl, _, _, rfl, rfl, _, rfl, way2 (fun h => ?_) (fun h => ?_)⟩
    · have e : n = 0 := by omega
      subst e
      refine ⟨_, rfl, _, rfl, k, 2, rfl, rfl, div9 (by decide) (by decide), p, k / 2, rfl, p64, by show _ < 1152921504606846976; omega, ?_⟩
      exact q _ _ _ (Same.refl H) (rts_congr dz (rts_zero (p := p) (k := k) pr)) (by rw [List.length_map, List.length_range])
    · have n0 : 0 < n := by omega
      have n64 : n < 2 ^ 64 := by show n < 18446744073709551616; omega
      refine ⟨_, rfl, _, rfl, n, p, rfl, n0, n64, p2, p64, fun t nt => ?_⟩
      have st := same_upd (o := .tup [.int ((takenOut n p).1 : Int), .int ((takenOut n p).2 : Int)]) nt
      refine ⟨t, _, rfl, SqT.of upd_same, rfl, _, _, rfl, _, _, rfl, rfl, ?_⟩
      generalize upd H t (.tup [.int ((takenOut n p).1 : Int), .int ((takenOut n p).2 : Int)]) = H1 at st ⊢
      obtain ⟨j, hj, hn, hw⟩ := toL_spec (p := p) p2 (f := 64) (n := n) (k := 0) n0 n64
      change (takenOut n p).1 = 0 + j at hj
      change n = p ^ j * (takenOut n p).2 at hn
      change (takenOut n p).2 % p ≠ 0 at hw
      rw [hj, Nat.zero_add]
      generalize (takenOut n p).2 = w at hn hw ⊢
      have w0 : 0 < w := by
        cases w with
        | zero => rw [Nat.zero_mod] at hw; exact absurd rfl hw
        | succ w => omega
      have jn : p ^ j ≤ n := by rw [hn]; exact Nat.le_mul_of_pos_right _ w0
      have jk : j < k := by
        by_cases zz : j < k
        · exact zz
        · have := Nat.pow_le_pow_right (show 0 < p by omega) (show k ≤ j by omega)
          omega
      refine ⟨_, rfl, j, 2, rfl, rfl, by decide, _, _, rfl, rfl, _, rfl, way2 (fun h => ?_) (fun h => ?_)⟩
      · have R := rts_odd (k := k) (j := j) pr (by omega) jk hw
        rw [← hn] at R
        exact q _ 0 [] st (rts_congr dz R) rfl
      · obtain ⟨i, rfl⟩ : ∃ i, j = 2 * i := ⟨j / 2, by omega⟩
        have ei : 2 * i / 2 = i := by omega
        refine ⟨_, rfl, _, rfl, 2 * i, 2, rfl, rfl, div9 (by decide) (by decide), ?_⟩
        rw [ei]
        refine ⟨p, i, rfl, p64, by show i < 1152921504606846976; omega, ?_⟩
        have ai : p ^ i ≤ p ^ k := Nat.pow_le_pow_right (by omega) (by omega)
        obtain ⟨k', hk'⟩ : ∃ k', k - 2 * i = k' + 1 := ⟨k - 2 * i - 1, by omega⟩
        refine ⟨_, rfl, _, rfl, _, rfl, _, rfl, k, 2 * i, rfl, rfl, by omega, w, p, k - 2 * i, rfl, by omega, by show p < 1152921504606846976; omega, by omega, ?_⟩
        obtain ⟨L, R, hL⟩ := cntU_ok (k := k') hp hw
        rw [← hk'] at R hL
        have R2 := rts_even (k := k) (i := i) pr (by omega) R
        rw [← hn] at R2
        refine ⟨_, _, rfl, rfl, .inl (by show _ < 18446744073709551616; omega), ?_⟩
        exact q _ _ _ st (rts_congr dz R2) (by rw [len2, List.length_range, hL, Nat.mul_comm])
def spCountRootsByParts (_ : PySem.W.Frag) : Sp := fun vs H Q _ => ∃ (z : Int) (m : Nat) (l : List (Nat × Nat)) (A : Addr) (as : List Addr), vs = [.int z, .ref A] ∧ H A = some (.lst (as.map V.ref)) ∧ Prs H as (nats l) ∧ 0 < m ∧ m ≤ 100000000 ∧ FacOk m l ∧
  ∀ H' c L, Same H H' → Rts z m L → L.length = c → Q (.int (c : Int)) H'
theorem one_le_prod : ∀ {q : List (Nat × Nat)} {a : Nat}, FacP a q → 0 < prodP q
  | [], _, _ => Nat.one_pos
  | (p, k) :: r, a, h => by
    obtain ⟨g1, _, _, _, _, g6⟩ := h
    have p0 : 0 < p := by
      rcases g1 with e | e
      · omega
      · have := e.pr.1
        omega
    exact Nat.mul_pos (Nat.pow_pos p0) (one_le_prod g6)
theorem rts_le {z : Int} {m : Nat} {L : List Int} (R : Rts z m L) : L.length ≤ m := by
  have h := nodup_len (m := (List.range m).map fun (t : Nat) => (t : Int)) R.1 fun x hx => by
    obtain ⟨a, b, _⟩ := (R.2 x).mp hx
    exact List.mem_map.mpr ⟨x.toNat, List.mem_range.mpr (by omega), Int.toNat_of_nonneg a⟩
  rw [List.length_map, List.length_range] at h
  exact h
theorem okCountRootsByParts (T : Txt K mg fa fd) : FnOk P w K mg base CX0 5 (fa 10) (fd 10) ["d", "parts"] (spCountRootsByParts K) := by
  refine T.F_count_roots_by_parts.ok scCountRootsByParts (fun vs H Q E h => ?_) (fun cdv A outer s H vs Q E hr h => ?_)
  · obtain ⟨z, m, l, A, as, rfl, hA, hP, m0, m1, hf, q⟩ := h
    rfl
  · obtain ⟨z, m, l, A, as, rfl, hA, hP, m0, m1, hf, q⟩ := h
    refine ⟨_, (pss_cons (ps_set (i := 2) scCountRootsByParts.nd rfl (Or.inl rfl) pe_int)
      (pss_cons (ps_for PassesOwn.never rfl (piL K (pv 1)) (pg_tup (by rfl) (pgs_cons (pg_name (i := 3) scCountRootsByParts.nd rfl (Or.inl rfl)) (pgs_cons (pg_name (i := 4) scCountRootsByParts.nd rfl (Or.inl rfl)) pgs_nil)))
      (pss_one (ps_set (i := 2) scCountRootsByParts.nd rfl (Or.inl rfl) (pe_op mulNN (pv 2) (pe_call (okCountPowerRoots T) hr (by rfl) T.G__count_power_roots T.F__count_power_roots.kp T.B__count_power_roots .nil pass0 (pa_cons (pv 0) (pa_cons (pv 3) (pa_cons (pv 4) pa_nil))))))))
      (pss_one (ps_ret (pv 2))))), ?_⟩
    refine ⟨_, rfl, A, rfl, ⟨_, SqL.of hA⟩, for_list (K := K) (a := A) (xs := as.map V.ref) (fun i σ H' => ∃ (L : List Int) (x3 x4 : Option V) (M : Nat), σ = [some (.int z), some (.ref A), some (.int (L.length : Int)), x3, x4] ∧ Same H H' ∧ Rts z M L ∧ 0 < M ∧ M * prodP (l.drop i) = m ∧ FacP M (l.drop i))
      ⟨[0], none, none, 1, rfl, Same.refl H, ⟨by decide, fun x => ?_⟩, by decide, ?_, hf.fac⟩ (fun i σ H' hi ⟨L, x3, x4, M, e1, e2, _⟩ => SqL.of (e2 _ _ hA)) (fun i x σ H' hx ⟨L, x3, x4, M, e1, e2, e4, e5, e6, e7⟩ => ?_) (fun σ H' ⟨L, x3, x4, M, e1, e2, e4, e5, e6, e7⟩ => ?_)⟩
    · rw [List.mem_singleton]
      show x = 0 ↔ 0 ≤ x ∧ x < 1 ∧ (1 : Int) ∣ x * x - z
      exact ⟨fun e => ⟨by omega, by omega, ⟨x * x - z, by omega⟩⟩, fun ⟨a, b, _⟩ => by omega⟩
    · rw [List.drop_zero, hf.prod, Nat.one_mul]
    · subst e1
      rw [List.getElem?_map] at hx
      cases ha : as[i]? with
      | none =>
        rw [ha] at hx
        cases hx
      | some t =>
        rw [ha] at hx
        cases hx
        have il : i < l.length := by
          have h1 := (List.getElem?_eq_some_iff.mp ha).1
          have h2 := hP.len
          unfold nats at h2
          rw [List.length_map] at h2
          omega
        obtain ⟨⟨p, k⟩, hpk⟩ : ∃ pk, l[i]? = some pk := ⟨_, List.getElem?_eq_getElem il⟩
        have hd : l.drop i = (p, k) :: l.drop (i + 1) := by
          rw [List.drop_eq_getElem_cons il]
          congr 1
          rw [List.getElem?_eq_getElem il] at hpk
          exact Option.some.inj hpk
        have hn : (nats l)[i]? = some ((p : Int), (k : Int)) := by
          unfold nats
          rw [List.getElem?_map, hpk]
          rfl
        obtain ⟨t', ht1, ht2⟩ := hP.at hn
        rw [ha] at ht1
        cases ht1
        rw [hd] at e6 e7
        obtain ⟨f1, f2, f3, f4, f5, f6⟩ := e7
        have e6' : M * (p ^ k * prodP (l.drop (i + 1))) = m := e6
        have P0 : 0 < p ^ k := by
          refine Nat.pow_pos ?_
          rcases f1 with e | e
          · omega
          · have := e.pr.1
            omega
        have Mm : M ≤ m := by
          rw [← e6']
          exact Nat.le_mul_of_pos_right _ (Nat.mul_pos P0 (one_le_prod f6))
        have lM := rts_le e4
        refine ⟨t, _, rfl, SqT.of (e2 _ _ ht2), rfl, _, _, rfl, _, _, rfl, rfl, ?_⟩
        refine ⟨_, rfl, _, rfl, _, rfl, _, rfl, z, p, k, rfl, f1, f2, f3, f4, fun H2 c ns s2 R2 hc => ?_⟩
        refine ⟨L.length, c, rfl, rfl, .inl (by show _ < 18446744073709551616; omega), ?_⟩
        obtain ⟨u, v, huv⟩ := bez_ex (p ^ k) M (p ^ k) (Nat.le_refl _)
        rw [f5] at huv
        have RJ := rts_join e5 P0 huv e4 R2
        refine ⟨_, some (.int (p : Int)), some (.int (k : Int)), M * p ^ k, ?_, e2.trans s2, RJ, Nat.mul_pos e5 P0, ?_, f6⟩
        · rw [len2, hc]
          rfl
        · rw [Nat.mul_assoc]
          exact e6'
    · subst e1
      have el : l.drop (as.map V.ref).length = [] := by
        have h2 := hP.len
        unfold nats at h2
        rw [List.length_map] at h2
        rw [List.length_map, h2]
        exact List.drop_length
      rw [el] at e6
      have eM : M = m := by
        have : M * 1 = m := e6
        omega
      subst eM
      exact ⟨_, rfl, q H' _ L e2 e4 rfl⟩
def spCountRoots (_ : PySem.W.Frag) : Sp := fun vs H Q _ => ∃ (z : Int) (m : Nat) (l : List (Nat × Nat)), vs = [.int z, .int (m : Int)] ∧ 0 < m ∧ m ≤ 100000000 ∧ FacOk m l ∧
  ∀ H' c L, Same H H' → Rts z m L → L.length = c → Q (.int (c : Int)) H'
theorem okCountRoots (T : Txt K mg fa fd) : FnOk P w K mg base CX0 6 (fa 9) (fd 9) ["d", "m"] (spCountRoots K) := by
  refine T.F_count_roots.ok scCountRoots (fun vs H Q E h => ?_) (fun cdv A outer s H vs Q E hr h => ?_)
  · obtain ⟨z, m, l, rfl, m0, m1, hf, q⟩ := h
    rfl
  · obtain ⟨z, m, l, rfl, m0, m1, hf, q⟩ := h
    refine ⟨_, (pss_one (ps_ret (pe_call (okCountRootsByParts T) hr (by rfl) T.G_count_roots_by_parts T.F_count_roots_by_parts.kp T.B_count_roots_by_parts .nil pass0 (pa_cons (pv 0) (pa_cons (pe_call (okPrimeParts T) (hr.mono (by decide)) (by rfl) T.G_prime_parts T.F_prime_parts.kp T.B_prime_parts .nil pass0 (pa_cons (pv 1) pa_nil)) pa_nil))))), ?_⟩
    refine ⟨_, rfl, _, rfl, m, l, rfl, m0, by show m < 576460752303423488; omega, hf.pp, fun H1 A as s1 nA hA hP hl => ?_⟩
    exact ⟨z, m, l, A, as, rfl, hA, hP, m0, m1, hf, fun H' c L s2 R2 hc => q H' c L (s1.trans s2) R2 hc⟩
def spLawCell (K : PySem.W.Frag) : Sp := fun vs H Q _ => ∃ (l : Addr) (ns : List Int) (j : Nat), vs = [.ref l, .int (j : Int)] ∧ SqL K H l (ns.map V.int) ∧ ∀ v : Int, Q (.int v) H
theorem okLawCell (T : Txt K mg fa fd) : FnOk P w K mg base CX0 1 (fa 22) (fd 22) ["script", "k"] (spLawCell K) := by
  refine T.F__law_cell.ok scLawCell (fun vs H Q E h => ?_) (fun cdv A outer s H vs Q E hr h => ?_)
  · obtain ⟨l, ns, j, rfl, hS, q⟩ := h
    rfl
  · obtain ⟨l, ns, j, rfl, hS, q⟩ := h
    refine ⟨_, (pss_cons (ps_if (pt_cmp (pc_lt (pv 1) (pe_callB (lenQ K) (by rfl) T.m_len (by decide +kernel) (pa_cons (pv 0) pa_nil))))
      (pss_one (ps_ret (pe_ix (ixL K) (pv 0) (pv 1) (fun _ _ => rfl))))
      pss_nil)
      (pss_one (ps_ret pe_int))), ?_⟩
    refine ⟨_, rfl, _, rfl, _, _, rfl, .inl hS, _, _, rfl, rfl, _, rfl, ite2 (fun e => ?_) (fun e => ?_)⟩
    · have e1 : (j : Int) < ((ns.map V.int).length : Int) := of_decide_eq_true e
      have hj : j < ns.length := by
        rw [List.length_map] at e1
        omega
      exact ⟨_, rfl, _, rfl, _, _, _, _, rfl, rfl, hS, atI_nat (by rw [List.getElem?_map, List.getElem?_eq_getElem hj]; rfl), q _⟩
    · exact q 0
def spLawNumbers (K : PySem.W.Frag) : Sp := fun vs H Q _ => ∃ (c : Int) (m : Nat), vs = [.int c, .int (m : Int)] ∧ m ≤ 100 ∧
  ∀ H' p (ns : List Int), Same H H' → H p = none → H' p = some (.lst (ns.map V.int)) → ns.length = m → (∀ n ∈ ns, 0 ≤ n ∧ n < 1000) → Q (.ref p) H'
theorem okLawNumbers (T : Txt K mg fa fd) : FnOk P w K mg base CX0 1 (fa 23) (fd 23) ["cell", "many"] (spLawNumbers K) := by
  refine T.F__law_numbers.ok scLawNumbers (fun vs H Q E h => ?_) (fun cdv A outer s H vs Q E hr h => ?_)
  · obtain ⟨c, m, rfl, hm, q⟩ := h
    rfl
  · obtain ⟨c, m, rfl, hm, q⟩ := h
    refine ⟨_, (pss_cons (ps_set (i := 2) scLawNumbers.nd rfl (Or.inl rfl) (pe_callB call_abs (by rfl) T.m_abs (by decide +kernel) (pa_cons (pv 0) pa_nil)))
      (pss_cons (ps_set (i := 3) scLawNumbers.nd rfl (Or.inl rfl) (pv 2))
      (pss_cons (ps_set (i := 4) scLawNumbers.nd rfl (Or.inl rfl) (pe_lst pa_nil))
      (pss_cons (ps_for PassesOwn.never rfl (pi_range1 (by rfl) T.m_range (pa_cons (pv 1) pa_nil)) (pg_name (i := 5) scLawNumbers.nd rfl (Or.inl rfl))
      (pss_one (ps_if (PW.pt (pw_and (pt_cmp (pc_ge (pv 3) (pe_op op_pow pe_int pe_int))) (pw_and1 (pt_cmp (pc_gt (pv 2) pe_int)))))
        (pss_cons (ps_expr (pe_bm PySem.F.plainAttrs_list PySem.F.slot_list_append PySem.F.type_list_append mt_append (pv 4) (pa_cons (pe_op op_mod (pe_callTy call_int1 (by rfl) T.m_int (by decide +kernel) (pa_cons (pv 2) pa_nil)) pe_int) pa_nil)))
          (pss_one (ps_set (i := 2) scLawNumbers.nd rfl (Or.inl rfl) (pe_op op_fdiv (pv 2) pe_int))))
        (pss_cons (ps_set (i := 6) scLawNumbers.nd rfl (Or.inl rfl) (pe_op op_mod (pe_callTy call_int1 (by rfl) T.m_int (by decide +kernel) (pa_cons (pe_op op_add (pe_op op_add (pe_op op_mul (pv 3) pe_int) (pe_op op_mul (pv 5) pe_int)) pe_int) pa_nil)) pe_int))
          (pss_cons (ps_set (i := 6) scLawNumbers.nd rfl (Or.inl rfl) (pe_op op_mod (pe_callTy call_int1 (by rfl) T.m_int (by decide +kernel) (pa_cons (pe_op op_add (pe_op op_add (pe_op op_mul (pv 6) (pv 6)) (pe_op op_mul pe_int (pv 5))) pe_int) pa_nil)) pe_int))
          (pss_one (ps_expr (pe_bm PySem.F.plainAttrs_list PySem.F.slot_list_append PySem.F.type_list_append mt_append (pv 4) (pa_cons (pe_op op_mod (pe_callTy call_int1 (by rfl) T.m_int (by decide +kernel) (pa_cons (pe_op op_fdiv (pv 6) pe_int) pa_nil)) pe_int) pa_nil)))))))))
      (pss_one (ps_ret (pv 4))))))), ?_⟩
    refine ⟨_, rfl, _, rfl, _, rfl, Nat.zero_le _, fun o no => ?_⟩
    refine ⟨_, rfl, _, rfl, by omega, by omega, for_range (lo := 0) (n := m) (fun i σ H' => ∃ (rest span : Int) (x5 x6 : Option V) (ns : List Int), σ = [some (.int c), some (.int (m : Int)), some (.int rest), some (.int span), some (.ref o), x5, x6] ∧ Same H H' ∧ H' o = some (.lst (ns.map V.int)) ∧ ns.length = i ∧ ∀ n ∈ ns, 0 ≤ n ∧ n < 1000)
      ⟨_, _, _, _, [], rfl, same_upd no, upd_same, rfl, fun n h => nomatch h⟩ (fun i σ H' hi ⟨rest, span, x5, x6, ns, hσ, hs, ho, hl, hb⟩ => ?_) (fun σ H' ⟨rest, span, x5, x6, ns, hσ, hs, ho, hl, hb⟩ => ?_)⟩
    · subst hσ
      have sz : (ns.map V.int).length < sizeLine := by
        rw [List.length_map]
        exact small1000 (by omega)
      have app : ∀ r : Int, 0 ≤ r → r < 1000 → (upd H' o (.lst (ns.map V.int ++ [V.int r]))) o = some (.lst ((ns ++ [r]).map V.int)) ∧ (ns ++ [r]).length = i + 1 ∧ ∀ n ∈ ns ++ [r], 0 ≤ n ∧ n < 1000 := fun r h0 h1 => by
        refine ⟨by rw [upd_same, List.map_append]; rfl, by rw [List.length_append, hl]; rfl, fun n hn => ?_⟩
        rcases List.mem_append.mp hn with hn | hn
        · exact hb n hn
        · rw [List.mem_singleton.mp hn]
          exact ⟨h0, h1⟩
      refine ⟨_, rfl, _, _, rfl, rfl, ⟨by decide, by decide, by decide⟩, _, _, rfl, rfl, _, rfl, ?_⟩
      have tl : ∀ (D : Ends) (rest' : Int) (x5' x6' : Option V) (r : Int), 0 ≤ r → r < 1000 → (∀ σ' H2, (∃ (rest span : Int) (x5 x6 : Option V) (ns : List Int), σ' = [some (.int c), some (.int (m : Int)), some (.int rest), some (.int span), some (.ref o), x5, x6] ∧ Same H H2 ∧ H2 o = some (.lst (ns.map V.int)) ∧ ns.length = i + 1 ∧ ∀ n ∈ ns, 0 ≤ n ∧ n < 1000) → D.nx σ' H2) → D.nx [some (.int c), some (.int (m : Int)), some (.int rest'), some (.int span), some (.ref o), x5', x6'] (upd H' o (.lst (ns.map V.int ++ [V.int r]))) := fun D rest' x5' x6' r h0 h1 k => by
        obtain ⟨a1, a2, a3⟩ := app r h0 h1
        exact k _ _ ⟨rest', span, x5', x6', _, rfl, same_mut hs no, a1, a2, a3⟩
      have m1 : ∀ z : Int, 0 ≤ z % 1000 ∧ z % 1000 < 1000 := fun z => by omega
      have m2 : ∀ z : Int, 0 ≤ z % 2147483647 ∧ z % 2147483647 < 2147483647 := fun z => by omega
      refine ite2 (fun e => ?_) (fun e => ?_)
      · refine ⟨_, rfl, _, _, rfl, rfl, _, rfl, ite2 (fun e => ?_) (fun e => ?_)⟩
        · refine ⟨_, rfl, .inl ⟨rfl, _, SqL.of ho⟩, _, rfl, .inl ⟨_, rfl, _, _, rfl, rfl, by show (0 : Int) < 1000; decide, _, _, _, rfl, rfl, ho, sz, ?_⟩⟩
          refine ⟨_, rfl, _, _, rfl, rfl, ⟨by decide, by decide⟩, ?_⟩
          obtain ⟨a1, a2, a3⟩ := app (rest % 1000) (m1 _).1 (m1 _).2
          exact ⟨_, _, _, _, _, rfl, same_mut hs no, a1, a2, a3⟩
        · refine ⟨_, rfl, _, _, rfl, rfl, .inr ⟨by decide, by decide⟩, _, rfl, _, _, rfl, rfl, .inr ⟨by decide, by decide⟩, _, _, rfl, rfl, _, _, rfl, rfl, .inl ⟨_, rfl, _, _, rfl, rfl, by show (0 : Int) < 2147483647; decide, ?_⟩⟩
          refine ⟨_, rfl, _, rfl, _, _, rfl, rfl, .inl ?_, _, rfl, _, _, rfl, rfl, .inl ⟨by decide, by decide⟩, _, _, rfl, rfl, _, _, rfl, rfl, .inl ⟨_, rfl, _, _, rfl, rfl, by show (0 : Int) < 2147483629; decide, ?_⟩⟩
          · have h := m2 (span * 48271 + (0 + (i : Int)) * 69621 + 11)
            omega
          refine ⟨_, rfl, .inl ⟨rfl, _, SqL.of ho⟩, _, rfl, _, _, rfl, rfl, ⟨by decide, by decide⟩, .inl ⟨_, rfl, _, _, rfl, rfl, by show (0 : Int) < 1000; decide, _, _, _, rfl, rfl, ho, sz, ?_⟩⟩
          obtain ⟨a1, a2, a3⟩ := app _ (m1 _).1 (m1 _).2
          exact ⟨_, _, _, _, _, rfl, same_mut hs no, a1, a2, a3⟩
      · refine iteF ?_
        refine ⟨_, rfl, _, _, rfl, rfl, .inr ⟨by decide, by decide⟩, _, rfl, _, _, rfl, rfl, .inr ⟨by decide, by decide⟩, _, _, rfl, rfl, _, _, rfl, rfl, .inl ⟨_, rfl, _, _, rfl, rfl, by show (0 : Int) < 2147483647; decide, ?_⟩⟩
        refine ⟨_, rfl, _, rfl, _, _, rfl, rfl, .inl ?_, _, rfl, _, _, rfl, rfl, .inl ⟨by decide, by decide⟩, _, _, rfl, rfl, _, _, rfl, rfl, .inl ⟨_, rfl, _, _, rfl, rfl, by show (0 : Int) < 2147483629; decide, ?_⟩⟩
        · have h := m2 (span * 48271 + (0 + (i : Int)) * 69621 + 11)
          omega
        refine ⟨_, rfl, .inl ⟨rfl, _, SqL.of ho⟩, _, rfl, _, _, rfl, rfl, ⟨by decide, by decide⟩, .inl ⟨_, rfl, _, _, rfl, rfl, by show (0 : Int) < 1000; decide, _, _, _, rfl, rfl, ho, sz, ?_⟩⟩
        obtain ⟨a1, a2, a3⟩ := app _ (m1 _).1 (m1 _).2
        exact ⟨_, _, _, _, _, rfl, same_mut hs no, a1, a2, a3⟩
    · subst hσ
      exact ⟨_, rfl, q _ _ ns hs no ho hl hb⟩
def spLawState (K : PySem.W.Frag) : Sp := fun vs H Q _ => ∃ (l : Addr) (ns : List Int), vs = [.ref l] ∧ SqL K H l (ns.map V.int) ∧ ∀ H' p a, Same H H' → Dw H' p a 0 → Q (.ref p) H'
theorem okLawState (T : Txt K mg fa fd) : FnOk P w K mg base CX0 2 (fa 24) (fd 24) ["script"] (spLawState K) := by
  refine T.F__law_state.ok scLawState (fun vs H Q E h => ?_) (fun cdv A outer s H vs Q E hr h => ?_)
  · obtain ⟨l, ns, rfl, hS, q⟩ := h
    rfl
  · obtain ⟨l, ns, rfl, hS, q⟩ := h
    refine ⟨_, (pss_cons (ps_set (i := 1) scLawState.nd rfl (Or.inl rfl) (pe_lst pa_nil))
      (pss_cons (ps_for PassesOwn.never rfl (pi_range1 (by rfl) T.m_range (pa_cons pe_int pa_nil)) (pg_name (i := 2) scLawState.nd rfl (Or.inl rfl))
      (pss_one (ps_set (i := 1) scLawState.nd rfl (Or.inl rfl) (pe_op op_cat (pv 1) (pe_call (okLawNumbers T) hr (by rfl) T.G__law_numbers T.F__law_numbers.kp T.B__law_numbers .nil pass0 (pa_cons (pe_op op_add (pe_callB call_abs (by rfl) T.m_abs (by decide +kernel) (pa_cons (pe_call (okLawCell T) hr (by rfl) T.G__law_cell T.F__law_cell.kp T.B__law_cell .nil pass0 (pa_cons (pv 0) (pa_cons (pv 2) pa_nil))) pa_nil)) (pe_op op_mul pe_int (pv 2))) (pa_cons pe_int pa_nil)))))))
      (pss_one (ps_ret (pe_lst (pa_cons (pv 1) (pa_cons pe_int pa_nil))))))), ?_⟩
    refine ⟨Nat.zero_le _, fun o no => ?_⟩
    refine ⟨3, rfl, by decide, by decide, for_range (lo := 0) (n := 3) (fun i σ H' => ∃ (o : Addr) (x2 : Option V) (ms : List Int), σ = [some (.ref l), some (.ref o), x2] ∧ Same H H' ∧ H' o = some (.lst (ms.map V.int)) ∧ ms.length = 40 * i ∧ ∀ n ∈ ms, 0 ≤ n ∧ n < 1000)
      ⟨o, none, [], rfl, same_upd no, upd_same, rfl, fun n h => nomatch h⟩ (fun i σ H' hi ⟨o, x2, ms, hσ, hs, ho, hl, hb⟩ => ?_) (fun σ H' ⟨o, x2, ms, hσ, hs, ho, hl, hb⟩ => ?_)⟩
    · subst hσ
      refine ⟨_, rfl, _, rfl, _, rfl, l, ns, i, ?_, hs.seq hS, fun v => ⟨_, rfl, _, rfl, _, _, rfl, rfl, .inl ⟨by decide, by decide⟩, _, _, rfl, rfl, _, 40, rfl, by decide, fun H2 u ks s2 nu hu kl kb => ?_⟩⟩
      · exact congrArg (fun t : Int => [V.ref l, V.int t]) (Int.zero_add _)
      refine ⟨_, _, _, _, rfl, rfl, s2 _ _ ho, hu, ?_, fun w nw => ?_⟩
      · rw [List.length_map, List.length_map]
        exact small200 (by omega)
      refine ⟨w, _, ms ++ ks, rfl, (hs.trans s2).trans (same_upd nw), ?_, ?_, fun n hn => ?_⟩
      · rw [upd_same, List.map_append]
      · rw [List.length_append]
        omega
      · rcases List.mem_append.mp hn with hn | hn
        · exact hb n hn
        · exact kb n hn
    · subst hσ
      refine ⟨_, rfl, by show 2 ≤ sizeLine; decide, fun p np => ?_⟩
      refine q _ p o (hs.trans (same_upd np)) ⟨0, ms, Nat.le_refl 0, ne_of_none ho np, upd_same, ?_, hl, hb⟩
      rw [upd_ne (ne_of_none ho np)]
      exact ho
def spLawNext (_ : PySem.W.Frag) : Sp := fun vs H Q _ => ∃ (p a : Addr) (many : Int) (N : Nat), vs = [.ref p, .int many] ∧ Dw H p a N ∧ N < 1000000000 ∧ 0 < many ∧
  ∀ r H', 0 ≤ r → r < many → Dw H' p a (N + 1) → (∀ b, b ≠ p → H' b = H b) → Q (.int r) H'
theorem okLawNext (T : Txt K mg fa fd) : FnOk P w K mg base CX0 1 (fa 25) (fd 25) ["state", "many"] (spLawNext K) := by
  refine T.F__law_next.ok scLawNext (fun vs H Q E h => ?_) (fun cdv A outer s H vs Q E hr h => ?_)
  · obtain ⟨p, a, many, N, rfl, ⟨m, ns, hm, hap, hp, ha, hl, hb⟩, hN, hmany, q⟩ := h
    rfl
  · obtain ⟨p, a, many, N, rfl, ⟨m, ns, hm, hap, hp, ha, hl, hb⟩, hN, hmany, q⟩ := h
    refine ⟨_, (pss_cons (ps_asg (pe_op op_add (pe_ix (ixL K) (pv 0) pe_int (fun _ _ => rfl)) pe_int) (pg_sub (pv 0) pe_int set_list))
      (pss_cons (ps_set (i := 2) scLawNext.nd rfl (Or.inl rfl) (pe_op op_add (pe_ix (ixL K) (pe_ix (ixL K) (pv 0) pe_int (fun _ _ => rfl)) (pe_op op_mod (pe_callTy call_int1 (by rfl) T.m_int (by decide +kernel) (pa_cons (pe_op op_mul (pe_ix (ixL K) (pv 0) pe_int (fun _ _ => rfl)) pe_int) pa_nil)) (pe_callB (lenQ K) (by rfl) T.m_len (by decide +kernel) (pa_cons (pe_ix (ixL K) (pv 0) pe_int (fun _ _ => rfl)) pa_nil))) (fun _ _ => rfl)) (pe_op op_mul (pe_op op_mul pe_int (pe_ix (ixL K) (pv 0) pe_int (fun _ _ => rfl))) (pe_op op_add pe_int (pe_op op_fdiv (pe_ix (ixL K) (pv 0) pe_int (fun _ _ => rfl)) (pe_callB (lenQ K) (by rfl) T.m_len (by decide +kernel) (pa_cons (pe_ix (ixL K) (pv 0) pe_int (fun _ _ => rfl)) pa_nil)))))))
      (pss_one (ps_ret (pe_op op_mod (pe_callTy call_int1 (by rfl) T.m_int (by decide +kernel) (pa_cons (pv 2) pa_nil)) (pv 1)))))), ?_⟩
    have eS : SqL K H p [.ref a, .int (m : Int)] := SqL.of hp
    refine ⟨_, rfl, _, _, _, _, rfl, rfl, eS, atI_nat (j := 1) rfl, _, _, rfl, rfl, _, rfl, _, _, _, 1, rfl, rfl, hp, rfl, ?_⟩
    have h1p : (upd H p (.lst [.ref a, .int ((m : Int) + 1)])) p = some (.lst [.ref a, .int ((m : Int) + 1)]) := upd_same
    have h1a : (upd H p (.lst [.ref a, .int ((m : Int) + 1)])) a = some (.lst (ns.map V.int)) := by
      rw [upd_ne hap]
      exact ha
    have fr : ∀ b, b ≠ p → (upd H p (.lst [.ref a, .int ((m : Int) + 1)])) b = H b := fun b hb => upd_ne hb
    show tSeq _ _ _ _ (upd H p (.lst [.ref a, .int ((m : Int) + 1)]))
    generalize upd H p (.lst [.ref a, .int ((m : Int) + 1)]) = H1 at h1p h1a fr
    have S1 : SqL K H1 p [.ref a, .int ((m : Int) + 1)] := SqL.of h1p
    have A1 : SqL K H1 a (ns.map V.int) := SqL.of h1a
    have hl2 : ((ns.map V.int).length : Int) = 120 := by
      rw [List.length_map, hl]
      rfl
    obtain ⟨x, hx, ex⟩ := at_int (ns := ns) (r := ((m : Int) + 1) * 7 % 120) (by omega) (by omega)
    refine ⟨_, rfl, _, _, _, _, rfl, rfl, S1, atI_nat (j := 0) rfl, _, rfl, _, _, _, _, rfl, rfl, S1, atI_nat (j := 1) rfl, _, _, rfl, rfl, .inr ⟨by decide, by decide⟩, .inl ⟨_, rfl, _, rfl, _, _, _, _, rfl, rfl, S1, atI_nat (j := 0) rfl, _, _, rfl, .inl A1, ?_⟩⟩
    rw [hl2]
    refine ⟨_, _, rfl, rfl, by show (0 : Int) < 120; decide, _, _, _, _, rfl, rfl, A1, ex, ?_⟩
    refine ⟨_, rfl, _, _, _, _, rfl, rfl, S1, atI_nat (j := 1) rfl, _, _, rfl, rfl, .inl ⟨by decide, by decide⟩, _, rfl, _, _, _, _, rfl, rfl, S1, atI_nat (j := 1) rfl, _, rfl, _, _, _, _, rfl, rfl, S1, atI_nat (j := 0) rfl, _, _, rfl, .inl A1, ?_⟩
    rw [hl2]
    refine ⟨_, _, rfl, rfl, ⟨by decide, by decide⟩, _, _, rfl, rfl, _, _, rfl, rfl, .inl ⟨by omega, by omega⟩, _, _, rfl, rfl, ?_⟩
    refine ⟨_, rfl, .inl ⟨_, rfl, _, rfl, _, _, rfl, rfl, hmany, ?_⟩⟩
    exact q _ _ (Int.emod_nonneg _ (by omega)) (Int.emod_lt_of_pos _ hmany) ⟨m + 1, ns, by omega, hap, h1p, h1a, hl, hb⟩ fr
def spLawWide (_ : PySem.W.Frag) : Sp := fun vs H Q _ => ∃ (p a : Addr) (many : Int) (N : Nat), vs = [.ref p, .int many] ∧ Dw H p a N ∧ N < 900000000 ∧ 0 < many ∧
  ∀ r H', 0 ≤ r → r < many → Dw H' p a (N + 6) → (∀ b, b ≠ p → H' b = H b) → Q (.int r) H'
theorem okLawWide (T : Txt K mg fa fd) : FnOk P w K mg base CX0 2 (fa 26) (fd 26) ["state", "many"] (spLawWide K) := by
  refine T.F__law_wide.ok scLawWide (fun vs H Q E h => ?_) (fun cdv A outer s H vs Q E hr h => ?_)
  · obtain ⟨p, a, many, N, rfl, hD, hN, hmany, q⟩ := h
    rfl
  · obtain ⟨p, a, many, N, rfl, hD, hN, hmany, q⟩ := h
    refine ⟨_, (pss_cons (ps_set (i := 2) scLawWide.nd rfl (Or.inl rfl) pe_int)
      (pss_cons (ps_for PassesOwn.never rfl (pi_range1 (by rfl) T.m_range (pa_cons pe_int pa_nil)) (pg_name (i := 3) scLawWide.nd rfl (Or.inl rfl))
      (pss_one (ps_set (i := 2) scLawWide.nd rfl (Or.inl rfl) (pe_op op_add (pe_op op_mul (pv 2) pe_int) (pe_call (okLawNext T) hr (by rfl) T.G__law_next T.F__law_next.kp T.B__law_next .nil pass0 (pa_cons (pv 0) (pa_cons pe_int pa_nil)))))))
      (pss_one (ps_ret (pe_op op_mod (pv 2) (pv 1)))))), ?_⟩
    refine ⟨6, rfl, by decide, by decide, for_range (lo := 0) (n := 6) (fun i σ H' => ∃ (t : Int) (x3 : Option V), σ = [some (.ref p), some (.int many), some (.int t), x3] ∧ Dw H' p a (N + i) ∧ ∀ b, b ≠ p → H' b = H b)
      ⟨0, none, rfl, hD, fun _ _ => rfl⟩ (fun i σ H' hi ⟨t, x3, hσ, hd, fr⟩ => ?_) (fun σ H' ⟨t, x3, hσ, hd, fr⟩ => ?_)⟩
    · subst hσ
      refine ⟨_, rfl, _, _, rfl, rfl, .inr ⟨by decide, by decide⟩, _, rfl, p, a, 1000, N + i, rfl, hd, by omega, by decide, fun r H2 h0 h1 hd2 fr2 => ?_⟩
      refine ⟨_, _, rfl, rfl, _, _, rfl, ?_, fun b hb => (fr2 b hb).trans (fr b hb)⟩
      exact hd2
    · subst hσ
      refine ⟨_, rfl, _, rfl, _, _, rfl, rfl, hmany, ?_⟩
      exact q _ _ (Int.emod_nonneg _ (by omega)) (Int.emod_lt_of_pos _ hmany) hd fr
def spLaw (K : PySem.W.Frag) : Sp := fun vs H Q _ => ∃ (a : Addr) (ns : List Int), vs = [.ref a] ∧ SqL K H a (ns.map V.int) ∧ ns.length ≤ 63 ∧ ∀ H', Q (.bl true) H'
theorem map_snoc (ps : List Nat) (q : Nat) : ((ps ++ [q]).map fun (n : Nat) => V.int (n : Int)) = (ps.map fun (n : Nat) => V.int (n : Int)) ++ [V.int (q : Int)] := by
  rw [List.map_append]
  rfl
theorem okLaw (T : Txt K mg fa fd) : FnOk P w K mg base CX0 8 (fa 27) (fd 27) ["script"] (spLaw K) := by
  refine T.F_law.ok scLaw (fun vs H Q E h => ?_) (fun cdv A outer s H vs Q E hr h => ?_)
  · obtain ⟨l, ns, rfl, hS, hlen, q⟩ := h
    rfl
  · obtain ⟨l, ns, rfl, hS, hlen, q⟩ := h
    refine ⟨_, (pss_cons (ps_set (i := 1) scLaw.nd rfl (Or.inl rfl) (pe_call (okLawState T) (hr.mono (by decide)) (by rfl) T.G__law_state T.F__law_state.kp T.B__law_state .nil pass0 (pa_cons (pv 0) pa_nil)))
      (pss_cons (ps_set (i := 2) scLaw.nd rfl (Or.inl rfl) (pe_lst (pa_cons (pe_lst (pa_cons pe_int (pa_cons pe_int (pa_cons pe_int (pa_cons pe_int (pa_cons pe_int (pa_cons pe_int pa_nil))))))) (pa_cons (pe_lst (pa_cons pe_int (pa_cons pe_int (pa_cons pe_int (pa_cons pe_int pa_nil))))) (pa_cons (pe_lst (pa_cons pe_int (pa_cons pe_int (pa_cons pe_int pa_nil)))) (pa_cons (pe_lst (pa_cons pe_int (pa_cons pe_int (pa_cons pe_int (pa_cons pe_int pa_nil))))) (pa_cons (pe_lst (pa_cons pe_int (pa_cons pe_int (pa_cons pe_int (pa_cons pe_int (pa_cons pe_int (pa_cons pe_int (pa_cons pe_int (pa_cons pe_int pa_nil))))))))) pa_nil)))))))
      (pss_cons (ps_set (i := 3) scLaw.nd rfl (Or.inr rfl) pe_int)
      (pss_cons (ps_set (i := 4) scLaw.nd rfl (Or.inl rfl) (pe_lst pa_nil))
      (pss_cons (ps_for PassesOwn.never rfl (pi_range1 (by rfl) T.m_range (pa_cons pe_int pa_nil)) (pg_name (i := 5) scLaw.nd rfl (Or.inl rfl))
      (pss_one (ps_if (pt_cmp (pc_gt (pe_call (okLawNext T) (hr.mono (by decide)) (by rfl) T.G__law_next T.F__law_next.kp T.B__law_next .nil pass0 (pa_cons (pv 1) (pa_cons pe_int pa_nil))) pe_int))
        (pss_cons (ps_set (i := 6) scLaw.nd rfl (Or.inr rfl) (pe_ix (ixL K) (pe_ix (ixL K) (pv 2) (pv 5) (fun _ _ => rfl)) (pe_call (okLawNext T) (hr.mono (by decide)) (by rfl) T.G__law_next T.F__law_next.kp T.B__law_next .nil pass0 (pa_cons (pv 1) (pa_cons (pe_callB (lenQ K) (by rfl) T.m_len (by decide +kernel) (pa_cons (pe_ix (ixL K) (pv 2) (pv 5) (fun _ _ => rfl)) pa_nil)) pa_nil))) (fun _ _ => rfl)))
          (pss_one (ps_if (pt_cmp (pc_le (pe_op op_mul (pv 3) (pv 6)) (pe_op op_pow pe_int pe_int)))
          (pss_cons (ps_expr (pe_bm PySem.F.plainAttrs_list PySem.F.slot_list_append PySem.F.type_list_append mt_append (pv 4) (pa_cons (pv 6) pa_nil)))
            (pss_one (ps_set (i := 3) scLaw.nd rfl (Or.inr rfl) (pe_op op_mul (pv 3) (pv 6)))))
          pss_nil)))
        pss_nil)))
      (pss_cons (ps_set (i := 7) scLaw.nd rfl (Or.inl rfl) (pe_call (okLawWide T) (hr.mono (by decide)) (by rfl) T.G__law_wide T.F__law_wide.kp T.B__law_wide .nil pass0 (pa_cons (pv 1) (pa_cons (pe_op op_pow pe_int pe_int) pa_nil))))
      (pss_cons (ps_set (i := 8) scLaw.nd rfl (Or.inr rfl) (pe_op op_sub (pe_op op_mul (pv 7) (pv 7)) (pe_op op_mul (pv 3) (pe_call (okLawNext T) (hr.mono (by decide)) (by rfl) T.G__law_next T.F__law_next.kp T.B__law_next .nil pass0 (pa_cons (pv 1) (pa_cons pe_int pa_nil))))))
      (C8.pss_cut (ps_if (pt_cmp (pc_eqI (pe_call (okLawNext T) (hr.mono (by decide)) (by rfl) T.G__law_next T.F__law_next.kp T.B__law_next .nil pass0 (pa_cons (pv 1) (pa_cons pe_int pa_nil))) pe_int))
      (pss_one (ps_set (i := 8) scLaw.nd rfl (Or.inr rfl) (pe_op op_mul (pe_call (okLawWide T) (hr.mono (by decide)) (by rfl) T.G__law_wide T.F__law_wide.kp T.B__law_wide .nil pass0 (pa_cons (pv 1) (pa_cons (pe_op op_pow pe_int pe_int) pa_nil))) (pe_ix (ixL K) (pe_lst (pa_cons pe_int (pa_cons (pe_un un_neg pe_int) pa_nil))) (pe_call (okLawNext T) (hr.mono (by decide)) (by rfl) T.G__law_next T.F__law_next.kp T.B__law_next .nil pass0 (pa_cons (pv 1) (pa_cons pe_int pa_nil))) (fun _ _ => rfl)))))
      pss_nil)
      (pss_cons (ps_set (i := 9) scLaw.nd rfl (Or.inl rfl) pe_int)
      (pss_cons (ps_for PassesOwn.never rfl (piL K (pv 4)) (pg_name (i := 6) scLaw.nd rfl (Or.inr rfl))
      (pss_one (ps_set (i := 9) scLaw.nd rfl (Or.inl rfl) (pe_op op_mul (pv 9) (pe_callB (lenQ K) (by rfl) T.m_len (by decide +kernel) (pa_cons (pe_lc (own := [("y", 11)]) (g := gName 11)  rfl scLaw.nd (pi_range1 (by rfl) T.m_range (pa_cons (pv 6) pa_nil)) (blkOk_by (own := [("y", 11)]) (N := ["script", "state", "powers", "m", "parts", "k", "part", "x", "d", "many", "told", "y"]) (sc := defScope sLaw) (by decide +kernel)) (fun _ _ _ _ _ => (pg_name (i := 11) scLaw.nd rfl (Or.inl rfl))) (fun _ _ _ _ _ => (pts_one (pt_cmp (pc_eqI (pe_op op_mod (pe_op op_sub (pe_op op_mul (pv 11) (pv 11)) (pv 8)) (pv 6)) pe_int)))) (fun _ _ _ _ _ => (pv 11))) pa_nil))))))
      (pss_cons (ps_if (pt_cmp (pc_gt (pv 9) pe_int))
      (pss_one (ps_ret pe_bl))
      pss_nil)
      (pss_cons (ps_if (pt_cmp (pc_neI (pe_call (okCountRoots T) (hr.mono (by decide)) (by rfl) T.G_count_roots T.F_count_roots.kp T.B_count_roots .nil pass0 (pa_cons (pv 8) (pa_cons (pv 3) pa_nil))) (pv 9)))
      (pss_one (ps_ret pe_bl))
      pss_nil)
      (pss_cons (ps_set (i := 10) scLaw.nd rfl (Or.inr rfl) (pe_call (okSquareRoots T) hr (by rfl) T.G_square_roots T.F_square_roots.kp T.B_square_roots .nil pass0 (pa_cons (pv 8) (pa_cons (pv 3) pa_nil))))
      (pss_cons (ps_if (PW.pt (pw_or (pt_cmp (pc_neI (pe_callB (lenQ K) (by rfl) T.m_len (by decide +kernel) (pa_cons (pv 10) pa_nil)) (pv 9))) (pw_or1 (pt_cmp (pc_gt (pe_callB (lenQ K) (by rfl) T.m_len (by decide +kernel) (pa_cons (pe_lc (own := [("y", 11)]) (g := gName 11)  rfl scLaw.nd (piL K (pv 10)) (blkOk_by (own := [("y", 11)]) (N := ["script", "state", "powers", "m", "parts", "k", "part", "x", "d", "many", "told", "y"]) (sc := defScope sLaw) (by decide +kernel)) (fun _ _ _ _ _ => (pg_name (i := 11) scLaw.nd rfl (Or.inl rfl))) (fun _ _ _ _ _ => (pts_one (PW.pt (pw_or (pt_cmp (pc_neI (pe_op op_mod (pe_op op_sub (pe_op op_mul (pv 11) (pv 11)) (pv 8)) (pv 3)) pe_int)) (pw_or (pt_cmp (pc_lt (pv 11) pe_int)) (pw_or1 (pt_cmp (pc_ge (pv 11) (pv 3))))))))) (fun _ _ _ _ _ => (pv 11))) pa_nil)) pe_int)))))
      (pss_one (ps_ret pe_bl))
      pss_nil)
      (pss_cons (ps_if (pt_cmp (pc_gt (pe_callB (lenQ K) (by rfl) T.m_len (by decide +kernel) (pa_cons (pe_lc (own := [("k", 5)]) (g := gName 5)  rfl scLaw.nd (pi_range1 (by rfl) T.m_range (pa_cons (pe_op op_sub (pe_callB (lenQ K) (by rfl) T.m_len (by decide +kernel) (pa_cons (pv 10) pa_nil)) pe_int) pa_nil)) (blkOk_by (own := [("k", 5)]) (N := ["script", "state", "powers", "m", "parts", "k", "part", "x", "d", "many", "told", "y"]) (sc := defScope sLaw) (by decide +kernel)) (fun _ _ _ _ _ => (pg_name (i := 5) scLaw.nd rfl (Or.inl rfl))) (fun _ _ _ _ _ => (pts_one (pt_cmp (pc_ge (pe_ix (ixL K) (pv 10) (pv 5) (fun _ _ => rfl)) (pe_ix (ixL K) (pv 10) (pe_op op_add (pv 5) pe_int) (fun _ _ => rfl)))))) (fun _ _ _ _ _ => (pv 5))) pa_nil)) pe_int))
      (pss_one (ps_ret pe_bl))
      pss_nil)
      (pss_one (ps_ret (pe_or (pe_cmp (pc_neI (pe_op op_mod (pe_op op_sub (pe_op op_mul (pv 7) (pv 7)) (pv 8)) (pv 3)) pe_int)) (pe_one (pe_cmpR (inQ K) (pe_op op_mod (pv 7) (pv 3)) (pv 10) (by with_unfolding_all rfl))))))))))))))))))))), ?_⟩
    refine ⟨_, rfl, l, ns, rfl, hS, fun H1 p a s1 d1 => ?_⟩
    -- powers
    refine ⟨by show 6 ≤ sizeLine; decide, fun o1 n1 => ⟨by show 4 ≤ sizeLine; decide, fun o2 n2 => ⟨by show 3 ≤ sizeLine; decide, fun o3 n3 => ⟨by show 4 ≤ sizeLine; decide, fun o4 n4 => ⟨by show 8 ≤ sizeLine; decide, fun o5 n5 => ⟨by show 5 ≤ sizeLine; decide, fun P nP => ?_⟩⟩⟩⟩⟩⟩
    have t1 := same_upd (o := .lst [.int 4, .int 8, .int 16, .int 64, .int 2, .int 32]) n1
    have t2 := same_upd (o := .lst [.int 3, .int 9, .int 27, .int 81]) n2
    have t3 := same_upd (o := .lst [.int 5, .int 25, .int 125]) n3
    have t4 := same_upd (o := .lst [.int 7, .int 49, .int 11, .int 121]) n4
    have t5 := same_upd (o := .lst [.int 13, .int 17, .int 169, .int 101, .int 193, .int 1009, .int 4099, .int 10007]) n5
    have t6 := same_upd (o := .lst [.ref o1, .ref o2, .ref o3, .ref o4, .ref o5]) nP
    have g1 := t6 _ _ (t5 _ _ (t4 _ _ (t3 _ _ (t2 _ _ (upd_same (H := H1) (a := o1) (o := .lst [.int 4, .int 8, .int 16, .int 64, .int 2, .int 32]))))))
    have g2 := t6 _ _ (t5 _ _ (t4 _ _ (t3 _ _ (upd_same (a := o2) (o := .lst [.int 3, .int 9, .int 27, .int 81])))))
    have g3 := t6 _ _ (t5 _ _ (t4 _ _ (upd_same (a := o3) (o := .lst [.int 5, .int 25, .int 125]))))
    have g4 := t6 _ _ (t5 _ _ (upd_same (a := o4) (o := .lst [.int 7, .int 49, .int 11, .int 121])))
    have g5 := t6 _ _ (upd_same (a := o5) (o := .lst [.int 13, .int 17, .int 169, .int 101, .int 193, .int 1009, .int 4099, .int 10007]))
    have gP := upd_same (H := upd (upd (upd (upd (upd H1 o1 (.lst [.int 4, .int 8, .int 16, .int 64, .int 2, .int 32])) o2 (.lst [.int 3, .int 9, .int 27, .int 81])) o3 (.lst [.int 5, .int 25, .int 125])) o4 (.lst [.int 7, .int 49, .int 11, .int 121])) o5 (.lst [.int 13, .int 17, .int 169, .int 101, .int 193, .int 1009, .int 4099, .int 10007])) (a := P) (o := .lst [.ref o1, .ref o2, .ref o3, .ref o4, .ref o5])
    have dd := ((((((d1.same t1).same t2).same t3).same t4).same t5).same t6)
    have np1 := (d1.ne n1).1
    have np2 := ((d1.same t1).ne n2).1
    have np3 := (((d1.same t1).same t2).ne n3).1
    have np4 := ((((d1.same t1).same t2).same t3).ne n4).1
    have np5 := (((((d1.same t1).same t2).same t3).same t4).ne n5).1
    have npP := ((((((d1.same t1).same t2).same t3).same t4).same t5).ne nP).1
    generalize upd (upd (upd (upd (upd (upd H1 o1 (.lst [.int 4, .int 8, .int 16, .int 64, .int 2, .int 32])) o2 (.lst [.int 3, .int 9, .int 27, .int 81])) o3 (.lst [.int 5, .int 25, .int 125])) o4 (.lst [.int 7, .int 49, .int 11, .int 121])) o5 (.lst [.int 13, .int 17, .int 169, .int 101, .int 193, .int 1009, .int 4099, .int 10007])) P (.lst [.ref o1, .ref o2, .ref o3, .ref o4, .ref o5]) = H2 at g1 g2 g3 g4 g5 gP dd ⊢
    have RA : RowsAt H2 [o1, o2, o3, o4, o5] := by
      refine ⟨rfl, fun i o row h1 h2 => ?_⟩
      match i, h1, h2 with
      | 0, h1, h2 => cases h1; cases h2; exact g1
      | 1, h1, h2 => cases h1; cases h2; exact g2
      | 2, h1, h2 => cases h1; cases h2; exact g3
      | 3, h1, h2 => cases h1; cases h2; exact g4
      | 4, h1, h2 => cases h1; cases h2; exact g5
      | i + 5, h1, h2 => cases h1
    have off : ∀ o ∈ [o1, o2, o3, o4, o5], o ≠ p := by
      intro o ho
      simp only [List.mem_cons, List.not_mem_nil, or_false] at ho
      rcases ho with rfl | rfl | rfl | rfl | rfl
      · exact np1
      · exact np2
      · exact np3
      · exact np4
      · exact np5
    have gP' : H2 P = some (.lst (([o1, o2, o3, o4, o5] : List Addr).map V.ref)) := gP
    clear g1 g2 g3 g4 g5 gP np1 np2 np3 np4 np5 t1 t2 t3 t4 t5 t6
    generalize [o1, o2, o3, o4, o5] = rs at RA off gP'
    -- parts
    refine ⟨Nat.zero_le _, fun A nA => ?_⟩
    have Ap := (dd.ne nA).1
    have Aa := (dd.ne nA).2
    have AP : P ≠ A := ne_of_none gP' nA
    have sA := same_upd (o := .lst []) nA
    have offA : ∀ o ∈ rs, o ≠ A := fun o ho => by
      obtain ⟨i, hi⟩ := List.getElem?_of_mem ho
      have i5 : i < 5 := by
        have := (List.getElem?_eq_some_iff.mp hi).1
        have := RA.1
        omega
      obtain ⟨row, hr, _⟩ := row_len i5
      exact ne_of_none (RA.2 i o row hi hr) nA
    refine ⟨5, rfl, by decide, by decide, for_range (lo := 0) (n := 5) (fun i σ H => ∃ (m : Nat) (ps : List Nat) (x5 x6 : Option V), σ = [some (.ref l), some (.ref p), some (.ref P), some (.int (m : Int)), some (.ref A), x5, x6, none, none, none, none, none] ∧ 0 < m ∧ m ≤ 100000000 ∧ allM (rowsK.drop i) m = true ∧ ps.foldl (· * ·) 1 = m ∧ CopL 1 ps ∧ ps.length ≤ i ∧ H A = some (.lst (ps.map fun (n : Nat) => V.int (n : Int))) ∧ H P = some (.lst (rs.map V.ref)) ∧ RowsAt H rs ∧ Dw H p a (10 + 2 * i))
      ⟨1, [], none, none, rfl, by decide, by decide, allM_ok, rfl, trivial, Nat.le_refl 0, upd_same, sA _ _ gP', ⟨RA.1, fun i o row h1 h2 => sA _ _ (RA.2 i o row h1 h2)⟩, (dd.same sA).mono (by decide)⟩ (fun i σ H hi ⟨m, ps, x5, x6, e1, m0, m1, hm, hf, hc, hl, hA, hP, hR, hd⟩ => ?_) (fun σ H ⟨m, ps, x5, x6, e1, m0, m1, hm, hf, hc, hl, hA, hP, hR, hd⟩ => ?_)⟩
    · subst e1
      obtain ⟨row, hrow, rl0, rl1, rq⟩ := row_len hi
      obtain ⟨o, ho⟩ : ∃ o, rs[i]? = some o := ⟨_, List.getElem?_eq_getElem (by rw [hR.1]; exact hi)⟩
      have om := List.mem_of_getElem? ho
      have e0 : (0 : Int) + (i : Int) = (i : Int) := Int.zero_add _
      refine ⟨_, rfl, p, a, 3, _, rfl, hd, by omega, by decide, fun r K2 ra rb d2 f2 => ⟨_, _, rfl, rfl, _, rfl, way2 (fun h => ?_) (fun h => ?_)⟩⟩
      · have hP2 : K2 P = some (.lst (rs.map V.ref)) := (f2 P npP).trans hP
        have hR2 : RowsAt K2 rs := ⟨hR.1, fun i o row h1 h2 => (f2 o (off o (List.mem_of_getElem? h1))).trans (hR.2 i o row h1 h2)⟩
        have hA2 : K2 A = some (.lst (ps.map fun (n : Nat) => V.int (n : Int))) := (f2 A Ap).trans hA
        have at1 : atI (rs.map V.ref) ((0 : Int) + (i : Int)) = some (.ref o) := at_of e0 (by rw [List.getElem?_map, ho]; rfl)
        have hrow2 := hR2.2 i o row ho hrow
        refine ⟨_, rfl, _, rfl, _, _, _, _, rfl, rfl, SqL.of hP2, at1, _, rfl, _, rfl, _, rfl, _, _, _, _, rfl, rfl, SqL.of hP2, at1, _, _, rfl, .inl (SqL.of hrow2), p, a, (((row.map fun (n : Nat) => V.int (n : Int)).length : Nat) : Int), _, rfl, d2, by omega, ?_, fun r2 K3 r2a r2b d3 f3 => ?_⟩
        · rw [List.length_map]
          omega
        have hP3 : K3 P = some (.lst (rs.map V.ref)) := (f3 P npP).trans hP2
        have hR3 : RowsAt K3 rs := ⟨hR.1, fun i o row h1 h2 => (f3 o (off o (List.mem_of_getElem? h1))).trans (hR2.2 i o row h1 h2)⟩
        have hA3 : K3 A = some (.lst (ps.map fun (n : Nat) => V.int (n : Int))) := (f3 A Ap).trans hA2
        have hrow3 := hR3.2 i o row ho hrow
        obtain ⟨v, hv, ev⟩ := at_mem (xs := row.map fun (n : Nat) => V.int (n : Int)) r2a r2b
        obtain ⟨qq, hq, rfl⟩ := List.mem_map.mp hv
        obtain ⟨q0, q1⟩ := rq qq hq
        refine ⟨_, _, _, _, rfl, rfl, SqL.of hrow3, ev, ?_⟩
        refine ⟨_, rfl, _, rfl, _, _, rfl, rfl, .inl ⟨by omega, by omega⟩, _, _, rfl, rfl, pow_ok (by decide), _, _, rfl, rfl, _, rfl, way2 (fun h2 => ?_) (fun h2 => ?_)⟩
        · have h3 : m * qq ≤ 100000000 := by
            have h4 : (m : Int) * (qq : Int) ≤ 100000000 := h2
            rw [← Int.natCast_mul] at h4
            omega
          obtain ⟨tk1, tk2⟩ := allM_take hrow hm hq h3
          refine ⟨_, rfl, .inl ⟨rfl, _, SqL.of hA3⟩, _, rfl, A, _, _, rfl, rfl, hA3, ?_, ?_⟩
          · rw [List.length_map]
            exact small1000 (by omega)
          refine ⟨_, rfl, _, rfl, _, _, rfl, rfl, .inl ⟨by omega, by omega⟩, m * qq, ps ++ [qq], some (.int ((0 : Int) + (i : Int))), some (.int (qq : Int)), rfl, Nat.mul_pos m0 q0, h3, tk2, ?_, hc.snoc ?_ q0 q1, ?_, ?_, ?_, ⟨hR.1, fun i o row h1 h2 => ?_⟩, (d3.mut Ap.symm.symm Aa).mono (by omega)⟩
          · rw [foldl_snoc, hf]
          · rw [hf]
            exact tk1
          · rw [List.length_append, List.length_cons, List.length_nil]
            omega
          · rw [upd_same, map_snoc]
          · rw [upd_ne AP]
            exact hP3
          · rw [upd_ne (offA o (List.mem_of_getElem? h1))]
            exact hR3.2 i o row h1 h2
        · exact ⟨m, ps, some (.int ((0 : Int) + (i : Int))), some (.int (qq : Int)), rfl, m0, m1, allM_skip hrow hm, hf, hc, by omega, hA3, hP3, hR3, d3.mono (by omega)⟩
      · refine ⟨m, ps, some (.int ((0 : Int) + (i : Int))), x6, rfl, m0, m1, allM_skip hrow hm, hf, hc, by omega, (f2 A Ap).trans hA, (f2 P npP).trans hP, ⟨hR.1, fun i o row h1 h2 => (f2 o (off o (List.mem_of_getElem? h1))).trans (hR.2 i o row h1 h2)⟩, d2.mono (by omega)⟩
    subst e1
    obtain ⟨lf, hfac⟩ := facQ_ok (m := m) hm
    -- x, d
    refine ⟨_, rfl, _, _, rfl, rfl, pow_ok (by decide), p, a, _, _, rfl, hd, by decide, by decide, fun x K2 xa xb d2 f2 => ?_⟩
    have xb' : x < 1000000 := xb
    refine ⟨_, rfl, _, rfl, _, _, rfl, rfl, .inl ⟨by omega, by omega⟩, _, rfl, _, rfl, p, a, 50, _, rfl, d2, by decide, by decide, fun y K3 ya yb d3 f3 => ⟨_, _, rfl, rfl, .inl ⟨by omega, by omega⟩, _, _, rfl, rfl, ?_⟩⟩
    have x2 : 0 ≤ x * x := Int.mul_nonneg xa xa
    have x3 : x * x ≤ 1000000 * 1000000 := Int.mul_le_mul (by omega) (by omega) xa (by decide)
    have y2 : 0 ≤ (m : Int) * y := Int.mul_nonneg (by omega) ya
    have y3 : (m : Int) * y ≤ 100000000 * 50 := Int.mul_le_mul (by omega) (by omega) ya (by decide)
    have hA3 : K3 A = some (.lst (ps.map fun (n : Nat) => V.int (n : Int))) := (f3 A Ap).trans ((f2 A Ap).trans hA)
    refine ⟨fun σ K => ∃ d : Int, σ = [some (.ref l), some (.ref p), some (.ref P), some (.int (m : Int)), some (.ref A), x5, x6, some (.int x), some (.int d), none, none, none] ∧ -2000000000000 < d ∧ d < 2000000000000 ∧ K A = some (.lst (ps.map fun (n : Nat) => V.int (n : Int))), ?_, ?_⟩
    · refine ⟨_, rfl, p, a, 3, _, rfl, d3, by decide, by decide, fun r K4 ra rb d4 f4 => ⟨_, _, rfl, rfl, _, rfl, way2 (fun h => ?_) (fun h => ?_)⟩⟩
      · refine ⟨_, rfl, _, _, rfl, rfl, pow_ok (by decide), p, a, _, _, rfl, d4, by decide, by decide, fun w K5 wa wb d5 f5 => ⟨_, rfl, by show 2 ≤ sizeLine; decide, fun o no => ⟨_, rfl, p, a, 2, _, rfl, d5.new no, by decide, by decide, fun r2 K6 r2a r2b d6 f6 => ?_⟩⟩⟩
        have wb' : w < 1000000000 := wb
        have ho : K6 o = some (.lst [.int 1, .int (-1)]) := by
          rw [f6 o (d5.ne no).1]
          exact upd_same
        obtain ⟨v, hv, ev⟩ := at_mem (xs := [V.int 1, V.int (-1)]) r2a r2b
        obtain ⟨s, rfl, hs⟩ : ∃ s : Int, v = .int s ∧ (s = 1 ∨ s = -1) := by
          simp only [List.mem_cons, List.not_mem_nil, or_false] at hv
          rcases hv with e | e
          · exact ⟨_, e, .inl rfl⟩
          · exact ⟨_, e, .inr rfl⟩
        refine ⟨_, _, _, _, rfl, rfl, SqL.of ho, ev, _, _, rfl, rfl, .inl ⟨by omega, by omega⟩, w * s, rfl, ?_, ?_, ?_⟩
        · rcases hs with rfl | rfl <;> omega
        · rcases hs with rfl | rfl <;> omega
        · rw [f6 A Ap]
          exact same_upd no _ _ ((f5 A Ap).trans ((f4 A Ap).trans hA3))
      · exact ⟨x * x - (m : Int) * y, rfl, by omega, by omega, (f4 A Ap).trans hA3⟩
    rintro σ K4 ⟨d, rfl, db0, db1, hA4⟩
    -- many
    refine ⟨_, rfl, A, rfl, ⟨_, SqL.of hA4⟩, for_list (K := K) (a := A) (xs := ps.map fun (n : Nat) => V.int (n : Int)) (fun i σ K => ∃ (L : List Int) (M : Nat) (x6 : Option V), σ = [some (.ref l), some (.ref p), some (.ref P), some (.int (m : Int)), some (.ref A), x5, x6, some (.int x), some (.int d), some (.int (L.length : Int)), none, none] ∧ Same K4 K ∧ Rts d M L ∧ 0 < M ∧ (ps.drop i).foldl (· * ·) M = m ∧ CopL M (ps.drop i))
      ⟨[0], 1, x6, rfl, Same.refl K4, ⟨by decide, fun z => ?_⟩, by decide, hf, hc⟩ (fun i σ K hi ⟨L, M, x6, e1, e2, _⟩ => SqL.of (e2 _ _ hA4)) (fun i v σ K hx ⟨L, M, x6, e1, e2, e3, e4, e5, e6⟩ => ?_) (fun σ G0 ⟨L, M, x6, e1, e2, e3, e4, e5, e6⟩ => ?_)⟩
    · rw [List.mem_singleton]
      show z = 0 ↔ 0 ≤ z ∧ z < 1 ∧ (1 : Int) ∣ z * z - d
      exact ⟨fun e => ⟨by omega, by omega, ⟨z * z - d, by omega⟩⟩, fun ⟨a, b, _⟩ => by omega⟩
    · subst e1
      rw [List.getElem?_map] at hx
      cases hn : ps[i]? with
      | none =>
        rw [hn] at hx
        cases hx
      | some qq =>
        rw [hn] at hx
        cases hx
        have hdr : ps.drop i = qq :: ps.drop (i + 1) := by
          obtain ⟨h1, h2⟩ := List.getElem?_eq_some_iff.mp hn
          rw [List.drop_eq_getElem_cons h1, h2]
        rw [hdr] at e5 e6
        obtain ⟨c1, c2, c3, c4⟩ := e6
        have lM := rts_le e3
        have lq := rts_le (tried_rts d qq)
        have Mm : M ≤ 100000000 := by
          have key : ∀ (r : List Nat) (acc M : Nat), CopL acc r → M ≤ r.foldl (· * ·) M := by
            intro r
            induction r with
            | nil => intro acc M _; exact Nat.le_refl _
            | cons x r ih =>
              intro acc M h
              exact Nat.le_trans (Nat.le_mul_of_pos_right _ h.2.1) (ih _ _ h.2.2.2)
          have h1 : M * qq ≤ (ps.drop (i + 1)).foldl (· * ·) (M * qq) := key _ _ _ c4
          have h2 : (ps.drop (i + 1)).foldl (· * ·) (M * qq) = m := e5
          have h3 : M ≤ M * qq := Nat.le_mul_of_pos_right _ c2
          omega
        refine ⟨_, rfl, _, rfl, (qq : Int), rfl, by omega, by omega, fun D nD => ?_⟩
        have eq : ((qq : Nat) : Int).toNat = qq := rfl
        rw [eq]
        refine lc_range (lo := 0) (n := qq) (fun j H => H D = some (.lst ((tried d (qq : Int) j).map V.int)) ∧ Same K4 H) ⟨upd_same, e2.trans (same_upd nD)⟩ (fun j H hj ⟨g1, g2⟩ => ?_) (fun K5 ⟨g1, g2⟩ => ?_)
        · have e0 : (0 : Int) + (j : Int) = (j : Int) := Int.zero_add _
          refine ⟨rfl, _, rfl, _, rfl, _, _, rfl, rfl, .inl ⟨by omega, by omega⟩, _, rfl, _, _, rfl, rfl, _, rfl, _, _, rfl, rfl, by show (0 : Int) < (qq : Int); omega, _, _, rfl, rfl, _, rfl, ?_⟩
          rw [e0]
          refine way2 (fun h => ?_) (fun h => ?_)
          · refine ⟨_, rfl, _, g1, ?_, ?_, same_mut g2 (Same.free e2 nD)⟩
            · rw [List.length_map]
              exact Nat.lt_of_le_of_lt (Nat.le_trans (tried_len _ _ _) (show j ≤ 10007 by omega)) (by decide)
            · rw [upd_same, tried_succ, if_pos h, List.map_append]
              rfl
          · refine ⟨?_, g2⟩
            rw [tried_succ, if_neg h, List.append_nil]
            exact g1
        · refine ⟨_, _, rfl, .inl (SqL.of g1), _, _, rfl, rfl, .inl ⟨by omega, by omega⟩, ?_⟩
          obtain ⟨u, v, huv⟩ := bez_ex qq M qq (Nat.le_refl _)
          rw [c1] at huv
          have RJ := rts_join e4 c2 huv e3 (tried_rts d qq)
          refine ⟨_, M * qq, some (.int (qq : Int)), ?_, g2, RJ, Nat.mul_pos e4 c2, e5, c4⟩
          rw [len2, List.length_map, Int.natCast_mul]
          rfl
    subst e1
    have el : ps.drop (ps.map fun (n : Nat) => V.int (n : Int)).length = [] := by
      rw [List.length_map]
      exact List.drop_length
    rw [el] at e5
    have eM : M = m := e5
    subst eM
    have lM := rts_le e3
    refine ⟨_, rfl, _, _, rfl, rfl, _, rfl, way2 (fun h => q _) (fun h => ?_)⟩
    refine ⟨_, rfl, _, rfl, d, M, lf, rfl, m0, m1, hfac, fun G1 c L2 u1 RL hc2 => ⟨_, rfl, _, _, rfl, rfl, _, rfl, wayNF ?_ ?_⟩⟩
    · rw [← hc2]
      exact congrArg (fun n : Nat => (n : Int)) (rts_len RL e3)
    refine ⟨_, rfl, _, rfl, d, M, lf, rfl, m0, m1, hfac, fun G2 r2 ns2 u2 nr2 hr2 R2 srt2 => ?_⟩
    have nl := rts_le R2
    have ml : ns2.length = L.length := rts_len R2 e3
    refine ⟨_, rfl, _, _, rfl, .inl (SqL.of hr2), _, rfl, _, _, rfl, rfl, _, rfl, wayNF ?_ ?_⟩
    · rw [List.length_map, ml]
    refine ⟨_, rfl, r2, rfl, ⟨_, SqL.of hr2⟩, fun D nD => ?_⟩
    have hD2 := same_upd (o := .lst []) nD _ _ hr2
    refine lc_list (K := K) (a := r2) (xs := ns2.map V.int) (fun i H => H D = some (.lst []) ∧ H r2 = some (.lst (ns2.map V.int))) ⟨upd_same, hD2⟩ (fun i H hi ⟨g1, g2⟩ => SqL.of g2) (fun i v H hx ⟨g1, g2⟩ => ?_) (fun G3 ⟨g1, g2⟩ => ?_)
    · rw [List.getElem?_map] at hx
      cases hn : ns2[i]? with
      | none =>
        rw [hn] at hx
        cases hx
      | some z =>
        rw [hn] at hx
        cases hx
        obtain ⟨z0, z1, z2⟩ := (R2.2 z).mp (List.mem_of_getElem? hn)
        have zm := Int.emod_eq_zero_of_dvd z2
        refine ⟨rfl, _, rfl, _, rfl, _, _, rfl, rfl, .inl ⟨by omega, by omega⟩, _, rfl, _, _, rfl, rfl, _, rfl, _, _, rfl, rfl, by show (0 : Int) < (M : Int); omega, _, _, rfl, rfl, _, rfl, wayNF zm ?_⟩
        refine ⟨_, rfl, _, _, rfl, rfl, _, rfl, wayF (by omega) ?_⟩
        exact ⟨_, rfl, _, rfl, _, _, rfl, rfl, _, rfl, wayF (by omega) ⟨g1, g2⟩⟩
    refine ⟨_, _, rfl, .inl (SqL.of g1), _, _, rfl, rfl, _, rfl, wayF (by decide) ?_⟩
    -- ascending
    refine ⟨_, rfl, _, _, rfl, .inl (SqL.of g2), _, _, rfl, rfl, _, rfl, ?_, ?_, fun D2 nD2 => ?_⟩
    · rw [List.length_map]
      omega
    · rw [List.length_map]
      omega
    have g3 := same_upd (o := .lst []) nD2 _ _ g2
    have st2 := strict R2.1 srt2
    rw [List.length_map]
    refine lc_range (lo := 0) (n := ((ns2.length : Int) - 1).toNat) (fun i H => H D2 = some (.lst []) ∧ H r2 = some (.lst (ns2.map V.int))) ⟨upd_same, g3⟩ (fun i H hi ⟨b1, b2⟩ => ?_) (fun G4 ⟨b1, b2⟩ => ?_)
    · have i1 : i + 1 < ns2.length := by omega
      have e0 : (0 : Int) + (i : Int) = (i : Int) := Int.zero_add _
      have a1 : atI (ns2.map V.int) ((0 : Int) + (i : Int)) = some (.int ns2[i]) := at_of e0 (by rw [List.getElem?_map, List.getElem?_eq_getElem (by omega)]; rfl)
      have a2 : atI (ns2.map V.int) ((0 : Int) + (i : Int) + 1) = some (.int ns2[i + 1]) := at_of (j := i + 1) (by omega) (by rw [List.getElem?_map, List.getElem?_eq_getElem i1]; rfl)
      have lt := List.pairwise_iff_getElem.mp st2 i (i + 1) (by omega) i1 (by omega)
      exact ⟨rfl, _, rfl, _, rfl, _, _, _, _, rfl, rfl, SqL.of b2, a1, _, rfl, _, rfl, _, _, rfl, rfl, _, _, _, _, rfl, rfl, SqL.of b2, a2, _, _, rfl, rfl, _, rfl, wayF (by omega) ⟨b1, b2⟩⟩
    refine ⟨_, _, rfl, .inl (SqL.of b1), _, _, rfl, rfl, _, rfl, wayF (by decide) ?_⟩
    -- the last row
    refine ⟨_, rfl, _, rfl, _, _, rfl, rfl, .inl ⟨by omega, by omega⟩, _, rfl, _, _, rfl, rfl, _, rfl, _, _, rfl, rfl, by show (0 : Int) < (M : Int); omega, _, _, rfl, rfl, _, rfl, wayN2 (fun h9 => ?_) (fun h9 => ?_)⟩
    · exact q _
    · have hmem : x % (M : Int) ∈ ns2 := (R2.2 _).mpr ⟨Int.emod_nonneg _ (by omega), Int.emod_lt_of_pos _ (by omega), mod_sq (Int.dvd_of_emod_eq_zero h9)⟩
      refine ⟨_, rfl, _, rfl, _, _, rfl, rfl, by show (0 : Int) < (M : Int); omega, _, rfl, r2, _, rfl, .inl (SqL.of b2), rfl, flat_ints _, ?_⟩
      rw [mem_inV hmem]
      exact q _
end
theorem all_mk {l : PySem.W.OpenLaw} {w : World} {K : PySem.W.Frag} {h : Heap} {mg : Str → Option Value} {f : Addr} (X : K.In h) (G : h.Ns mainGlobals mg) (hfa : mg "law" = some (.ref f))
    {f0 f1 f2 f3 f4 f5 f6 f7 f8 f9 f10 f11 f12 f13 f14 f15 f16 f17 f18 f19 f20 f21 f22 f23 f24 f25 f26 f27 : Addr}
    {od0 an0 od1 an1 od2 an2 od3 an3 od4 an4 od5 an5 od6 an6 od7 an7 od8 an8 od9 an9 od10 an10 od11 an11 od12 an12 od13 an13 od14 an14 od15 an15 od16 an16 od17 an17 od18 an18 od19 an19 od20 an20 od21 an21 od22 an22 od23 an23 od24 an24 od25 an25 od26 an26 od27 an27 : Option Addr} {sl0 sl1 sl2 sl3 sl4 sl5 sl6 sl7 sl8 sl9 sl10 sl11 sl12 sl13 sl14 sl15 sl16 sl17 sl18 sl19 sl20 sl21 sl22 sl23 sl24 sl25 sl26 sl27 : Array (Option Value)}
    {oc0 kV0 dc0 pm0 cd0 ct0 oc1 kV1 dc1 pm1 cd1 ct1 oc2 kV2 dc2 pm2 cd2 ct2 oc3 kV3 dc3 pm3 cd3 ct3 oc4 kV4 dc4 pm4 cd4 ct4 oc5 kV5 dc5 pm5 cd5 ct5 oc6 kV6 dc6 pm6 cd6 ct6 oc7 kV7 dc7 pm7 cd7 ct7 oc8 kV8 dc8 pm8 cd8 ct8 oc9 kV9 dc9 pm9 cd9 ct9 oc10 kV10 dc10 pm10 cd10 ct10 oc11 kV11 dc11 pm11 cd11 ct11 oc12 kV12 dc12 pm12 cd12 ct12 oc13 kV13 dc13 pm13 cd13 ct13 oc14 kV14 dc14 pm14 cd14 ct14 oc15 kV15 dc15 pm15 cd15 ct15 oc16 kV16 dc16 pm16 cd16 ct16 oc17 kV17 dc17 pm17 cd17 ct17 oc18 kV18 dc18 pm18 cd18 ct18 oc19 kV19 dc19 pm19 cd19 ct19 oc20 kV20 dc20 pm20 cd20 ct20 oc21 kV21 dc21 pm21 cd21 ct21 oc22 kV22 dc22 pm22 cd22 ct22 oc23 kV23 dc23 pm23 cd23 ct23 oc24 kV24 dc24 pm24 cd24 ct24 oc25 kV25 dc25 pm25 cd25 ct25 oc26 kV26 dc26 pm26 cd26 ct26 oc27 kV27 dc27 pm27 cd27 ct27 : Value}
    (a0 : PySem.W.nsIn K mainGlobals "bezout" = some (some (.ref f0))) (l0 : K.lookup f0 = some ⟨oc0, od0, .func (PySem.W.fnOf "bezout" "bezout" (defArgs sBezout) (defBody sBezout) (defScope sBezout) .none kV0 dc0 pm0 an0 cd0 ct0), sl0⟩) (c0 : PySem.W.codeIn K cd0 "bezout" = true) (k0 : PySem.W.keepIn K (.ref f0) = true)
    (a1 : PySem.W.nsIn K mainGlobals "power" = some (some (.ref f1))) (l1 : K.lookup f1 = some ⟨oc1, od1, .func (PySem.W.fnOf "power" "power" (defArgs sPower) (defBody sPower) (defScope sPower) .none kV1 dc1 pm1 an1 cd1 ct1), sl1⟩) (c1 : PySem.W.codeIn K cd1 "power" = true) (k1 : PySem.W.keepIn K (.ref f1) = true)
    (a2 : PySem.W.nsIn K mainGlobals "power_modulo" = some (some (.ref f2))) (l2 : K.lookup f2 = some ⟨oc2, od2, .func (PySem.W.fnOf "power_modulo" "power_modulo" (defArgs sPowerModulo) (defBody sPowerModulo) (defScope sPowerModulo) .none kV2 dc2 pm2 an2 cd2 ct2), sl2⟩) (c2 : PySem.W.codeIn K cd2 "power_modulo" = true) (k2 : PySem.W.keepIn K (.ref f2) = true)
    (a3 : PySem.W.nsIn K mainGlobals "taken_out" = some (some (.ref f3))) (l3 : K.lookup f3 = some ⟨oc3, od3, .func (PySem.W.fnOf "taken_out" "taken_out" (defArgs sTakenOut) (defBody sTakenOut) (defScope sTakenOut) .none kV3 dc3 pm3 an3 cd3 ct3), sl3⟩) (c3 : PySem.W.codeIn K cd3 "taken_out" = true) (k3 : PySem.W.keepIn K (.ref f3) = true)
    (a4 : PySem.W.nsIn K mainGlobals "is_prime" = some (some (.ref f4))) (l4 : K.lookup f4 = some ⟨oc4, od4, .func (PySem.W.fnOf "is_prime" "is_prime" (defArgs sIsPrime) (defBody sIsPrime) (defScope sIsPrime) .none kV4 dc4 pm4 an4 cd4 ct4), sl4⟩) (c4 : PySem.W.codeIn K cd4 "is_prime" = true) (k4 : PySem.W.keepIn K (.ref f4) = true)
    (a5 : PySem.W.nsIn K mainGlobals "_behaves_as_prime" = some (some (.ref f5))) (l5 : K.lookup f5 = some ⟨oc5, od5, .func (PySem.W.fnOf "_behaves_as_prime" "_behaves_as_prime" (defArgs sBehavesAsPrime) (defBody sBehavesAsPrime) (defScope sBehavesAsPrime) .none kV5 dc5 pm5 an5 cd5 ct5), sl5⟩) (c5 : PySem.W.codeIn K cd5 "_behaves_as_prime" = true) (k5 : PySem.W.keepIn K (.ref f5) = true)
    (a6 : PySem.W.nsIn K mainGlobals "prime_parts" = some (some (.ref f6))) (l6 : K.lookup f6 = some ⟨oc6, od6, .func (PySem.W.fnOf "prime_parts" "prime_parts" (defArgs sPrimeParts) (defBody sPrimeParts) (defScope sPrimeParts) .none kV6 dc6 pm6 an6 cd6 ct6), sl6⟩) (c6 : PySem.W.codeIn K cd6 "prime_parts" = true) (k6 : PySem.W.keepIn K (.ref f6) = true)
    (a7 : PySem.W.nsIn K mainGlobals "_least_measure" = some (some (.ref f7))) (l7 : K.lookup f7 = some ⟨oc7, od7, .func (PySem.W.fnOf "_least_measure" "_least_measure" (defArgs sLeastMeasure) (defBody sLeastMeasure) (defScope sLeastMeasure) .none kV7 dc7 pm7 an7 cd7 ct7), sl7⟩) (c7 : PySem.W.codeIn K cd7 "_least_measure" = true) (k7 : PySem.W.keepIn K (.ref f7) = true)
    (a8 : PySem.W.nsIn K mainGlobals "square_roots" = some (some (.ref f8))) (l8 : K.lookup f8 = some ⟨oc8, od8, .func (PySem.W.fnOf "square_roots" "square_roots" (defArgs sSquareRoots) (defBody sSquareRoots) (defScope sSquareRoots) .none kV8 dc8 pm8 an8 cd8 ct8), sl8⟩) (c8 : PySem.W.codeIn K cd8 "square_roots" = true) (k8 : PySem.W.keepIn K (.ref f8) = true)
    (a9 : PySem.W.nsIn K mainGlobals "count_roots" = some (some (.ref f9))) (l9 : K.lookup f9 = some ⟨oc9, od9, .func (PySem.W.fnOf "count_roots" "count_roots" (defArgs sCountRoots) (defBody sCountRoots) (defScope sCountRoots) .none kV9 dc9 pm9 an9 cd9 ct9), sl9⟩) (c9 : PySem.W.codeIn K cd9 "count_roots" = true) (k9 : PySem.W.keepIn K (.ref f9) = true)
    (a10 : PySem.W.nsIn K mainGlobals "count_roots_by_parts" = some (some (.ref f10))) (l10 : K.lookup f10 = some ⟨oc10, od10, .func (PySem.W.fnOf "count_roots_by_parts" "count_roots_by_parts" (defArgs sCountRootsByParts) (defBody sCountRootsByParts) (defScope sCountRootsByParts) .none kV10 dc10 pm10 an10 cd10 ct10), sl10⟩) (c10 : PySem.W.codeIn K cd10 "count_roots_by_parts" = true) (k10 : PySem.W.keepIn K (.ref f10) = true)
    (a11 : PySem.W.nsIn K mainGlobals "is_residue" = some (some (.ref f11))) (l11 : K.lookup f11 = some ⟨oc11, od11, .func (PySem.W.fnOf "is_residue" "is_residue" (defArgs sIsResidue) (defBody sIsResidue) (defScope sIsResidue) .none kV11 dc11 pm11 an11 cd11 ct11), sl11⟩) (c11 : PySem.W.codeIn K cd11 "is_residue" = true) (k11 : PySem.W.keepIn K (.ref f11) = true)
    (a12 : PySem.W.nsIn K mainGlobals "_joined" = some (some (.ref f12))) (l12 : K.lookup f12 = some ⟨oc12, od12, .func (PySem.W.fnOf "_joined" "_joined" (defArgs sJoined) (defBody sJoined) (defScope sJoined) .none kV12 dc12 pm12 an12 cd12 ct12), sl12⟩) (c12 : PySem.W.codeIn K cd12 "_joined" = true) (k12 : PySem.W.keepIn K (.ref f12) = true)
    (a13 : PySem.W.nsIn K mainGlobals "_count_power_roots" = some (some (.ref f13))) (l13 : K.lookup f13 = some ⟨oc13, od13, .func (PySem.W.fnOf "_count_power_roots" "_count_power_roots" (defArgs sCountPowerRoots) (defBody sCountPowerRoots) (defScope sCountPowerRoots) .none kV13 dc13 pm13 an13 cd13 ct13), sl13⟩) (c13 : PySem.W.codeIn K cd13 "_count_power_roots" = true) (k13 : PySem.W.keepIn K (.ref f13) = true)
    (a14 : PySem.W.nsIn K mainGlobals "_count_unit_roots" = some (some (.ref f14))) (l14 : K.lookup f14 = some ⟨oc14, od14, .func (PySem.W.fnOf "_count_unit_roots" "_count_unit_roots" (defArgs sCountUnitRoots) (defBody sCountUnitRoots) (defScope sCountUnitRoots) .none kV14 dc14 pm14 an14 cd14 ct14), sl14⟩) (c14 : PySem.W.codeIn K cd14 "_count_unit_roots" = true) (k14 : PySem.W.keepIn K (.ref f14) = true)
    (a15 : PySem.W.nsIn K mainGlobals "_power_roots" = some (some (.ref f15))) (l15 : K.lookup f15 = some ⟨oc15, od15, .func (PySem.W.fnOf "_power_roots" "_power_roots" (defArgs sPowerRoots) (defBody sPowerRoots) (defScope sPowerRoots) .none kV15 dc15 pm15 an15 cd15 ct15), sl15⟩) (c15 : PySem.W.codeIn K cd15 "_power_roots" = true) (k15 : PySem.W.keepIn K (.ref f15) = true)
    (a16 : PySem.W.nsIn K mainGlobals "_unit_roots" = some (some (.ref f16))) (l16 : K.lookup f16 = some ⟨oc16, od16, .func (PySem.W.fnOf "_unit_roots" "_unit_roots" (defArgs sUnitRoots) (defBody sUnitRoots) (defScope sUnitRoots) .none kV16 dc16 pm16 an16 cd16 ct16), sl16⟩) (c16 : PySem.W.codeIn K cd16 "_unit_roots" = true) (k16 : PySem.W.keepIn K (.ref f16) = true)
    (a17 : PySem.W.nsIn K mainGlobals "_unit_roots_of_two" = some (some (.ref f17))) (l17 : K.lookup f17 = some ⟨oc17, od17, .func (PySem.W.fnOf "_unit_roots_of_two" "_unit_roots_of_two" (defArgs sUnitRootsOfTwo) (defBody sUnitRootsOfTwo) (defScope sUnitRootsOfTwo) .none kV17 dc17 pm17 an17 cd17 ct17), sl17⟩) (c17 : PySem.W.codeIn K cd17 "_unit_roots_of_two" = true) (k17 : PySem.W.keepIn K (.ref f17) = true)
    (a18 : PySem.W.nsIn K mainGlobals "_prime_root" = some (some (.ref f18))) (l18 : K.lookup f18 = some ⟨oc18, od18, .func (PySem.W.fnOf "_prime_root" "_prime_root" (defArgs sPrimeRoot) (defBody sPrimeRoot) (defScope sPrimeRoot) .none kV18 dc18 pm18 an18 cd18 ct18), sl18⟩) (c18 : PySem.W.codeIn K cd18 "_prime_root" = true) (k18 : PySem.W.keepIn K (.ref f18) = true)
    (a19 : PySem.W.nsIn K mainGlobals "_least_non_residue" = some (some (.ref f19))) (l19 : K.lookup f19 = some ⟨oc19, od19, .func (PySem.W.fnOf "_least_non_residue" "_least_non_residue" (defArgs sLeastNonResidue) (defBody sLeastNonResidue) (defScope sLeastNonResidue) .none kV19 dc19 pm19 an19 cd19 ct19), sl19⟩) (c19 : PySem.W.codeIn K cd19 "_least_non_residue" = true) (k19 : PySem.W.keepIn K (.ref f19) = true)
    (a20 : PySem.W.nsIn K mainGlobals "_doublings_to_one" = some (some (.ref f20))) (l20 : K.lookup f20 = some ⟨oc20, od20, .func (PySem.W.fnOf "_doublings_to_one" "_doublings_to_one" (defArgs sDoublingsToOne) (defBody sDoublingsToOne) (defScope sDoublingsToOne) .none kV20 dc20 pm20 an20 cd20 ct20), sl20⟩) (c20 : PySem.W.codeIn K cd20 "_doublings_to_one" = true) (k20 : PySem.W.keepIn K (.ref f20) = true)
    (a21 : PySem.W.nsIn K mainGlobals "_lifted_root" = some (some (.ref f21))) (l21 : K.lookup f21 = some ⟨oc21, od21, .func (PySem.W.fnOf "_lifted_root" "_lifted_root" (defArgs sLiftedRoot) (defBody sLiftedRoot) (defScope sLiftedRoot) .none kV21 dc21 pm21 an21 cd21 ct21), sl21⟩) (c21 : PySem.W.codeIn K cd21 "_lifted_root" = true) (k21 : PySem.W.keepIn K (.ref f21) = true)
    (a22 : PySem.W.nsIn K mainGlobals "_law_cell" = some (some (.ref f22))) (l22 : K.lookup f22 = some ⟨oc22, od22, .func (PySem.W.fnOf "_law_cell" "_law_cell" (defArgs sLawCell) (defBody sLawCell) (defScope sLawCell) .none kV22 dc22 pm22 an22 cd22 ct22), sl22⟩) (c22 : PySem.W.codeIn K cd22 "_law_cell" = true) (k22 : PySem.W.keepIn K (.ref f22) = true)
    (a23 : PySem.W.nsIn K mainGlobals "_law_numbers" = some (some (.ref f23))) (l23 : K.lookup f23 = some ⟨oc23, od23, .func (PySem.W.fnOf "_law_numbers" "_law_numbers" (defArgs sLawNumbers) (defBody sLawNumbers) (defScope sLawNumbers) .none kV23 dc23 pm23 an23 cd23 ct23), sl23⟩) (c23 : PySem.W.codeIn K cd23 "_law_numbers" = true) (k23 : PySem.W.keepIn K (.ref f23) = true)
    (a24 : PySem.W.nsIn K mainGlobals "_law_state" = some (some (.ref f24))) (l24 : K.lookup f24 = some ⟨oc24, od24, .func (PySem.W.fnOf "_law_state" "_law_state" (defArgs sLawState) (defBody sLawState) (defScope sLawState) .none kV24 dc24 pm24 an24 cd24 ct24), sl24⟩) (c24 : PySem.W.codeIn K cd24 "_law_state" = true) (k24 : PySem.W.keepIn K (.ref f24) = true)
    (a25 : PySem.W.nsIn K mainGlobals "_law_next" = some (some (.ref f25))) (l25 : K.lookup f25 = some ⟨oc25, od25, .func (PySem.W.fnOf "_law_next" "_law_next" (defArgs sLawNext) (defBody sLawNext) (defScope sLawNext) .none kV25 dc25 pm25 an25 cd25 ct25), sl25⟩) (c25 : PySem.W.codeIn K cd25 "_law_next" = true) (k25 : PySem.W.keepIn K (.ref f25) = true)
    (a26 : PySem.W.nsIn K mainGlobals "_law_wide" = some (some (.ref f26))) (l26 : K.lookup f26 = some ⟨oc26, od26, .func (PySem.W.fnOf "_law_wide" "_law_wide" (defArgs sLawWide) (defBody sLawWide) (defScope sLawWide) .none kV26 dc26 pm26 an26 cd26 ct26), sl26⟩) (c26 : PySem.W.codeIn K cd26 "_law_wide" = true) (k26 : PySem.W.keepIn K (.ref f26) = true)
    (a27 : PySem.W.nsIn K mainGlobals "law" = some (some (.ref f27))) (l27 : K.lookup f27 = some ⟨oc27, od27, .func (PySem.W.fnOf "law" "law" (defArgs sLaw) (defBody sLaw) (defScope sLaw) .none kV27 dc27 pm27 an27 cd27 ct27), sl27⟩) (c27 : PySem.W.codeIn K cd27 "law" = true) (k27 : PySem.W.keepIn K (.ref f27) = true)
    (z0 : PySem.W.nsIn K mainGlobals "abs" = some none)
    (z1 : PySem.W.nsIn K mainGlobals "int" = some none)
    (z2 : PySem.W.nsIn K mainGlobals "len" = some none)
    (z3 : PySem.W.nsIn K mainGlobals "list" = some none)
    (z4 : PySem.W.nsIn K mainGlobals "max" = some none)
    (z5 : PySem.W.nsIn K mainGlobals "range" = some none)
    (z6 : PySem.W.nsIn K mainGlobals "sorted" = some none)
    {fw0 : Addr} {odw0 : Option Addr} {itw0 : Array Value} {nw0 : Nat} {slw0 : Array (Option Value)}
    (w0 : PySem.W.nsIn K mainGlobals "WITNESSES" = some (some (.ref fw0))) (x0 : K.lookup fw0 = some ⟨.type "tuple", odw0, .seq itw0 nw0, slw0⟩) (y0 : itw0.size ≤ sizeLine) (v0 : Vals [.int 2, .int 3, .int 5, .int 7, .int 11, .int 13, .int 17, .int 19, .int 23, .int 29, .int 31, .int 37] itw0.toList)
    : ∃ fd : FuncData, (∀ (s : Shared) (v : Value), BindsTo s fd ⟨[v], []⟩ [("script", v)]) ∧ ∀ base : Heap, K.In base → base.Ns mainGlobals mg → FnOk l.prog w K mg base CX0 8 f fd ["script"] (spLaw K) := by
  have e := hfa.symm.trans (PySem.W.mg_of X G a27)
  cases e
  have F0 := fun_mk (st := sBezout) l0 c0 k0
  have F1 := fun_mk (st := sPower) l1 c1 k1
  have F2 := fun_mk (st := sPowerModulo) l2 c2 k2
  have F3 := fun_mk (st := sTakenOut) l3 c3 k3
  have F4 := fun_mk (st := sIsPrime) l4 c4 k4
  have F5 := fun_mk (st := sBehavesAsPrime) l5 c5 k5
  have F6 := fun_mk (st := sPrimeParts) l6 c6 k6
  have F7 := fun_mk (st := sLeastMeasure) l7 c7 k7
  have F8 := fun_mk (st := sSquareRoots) l8 c8 k8
  have F9 := fun_mk (st := sCountRoots) l9 c9 k9
  have F10 := fun_mk (st := sCountRootsByParts) l10 c10 k10
  have F11 := fun_mk (st := sIsResidue) l11 c11 k11
  have F12 := fun_mk (st := sJoined) l12 c12 k12
  have F13 := fun_mk (st := sCountPowerRoots) l13 c13 k13
  have F14 := fun_mk (st := sCountUnitRoots) l14 c14 k14
  have F15 := fun_mk (st := sPowerRoots) l15 c15 k15
  have F16 := fun_mk (st := sUnitRoots) l16 c16 k16
  have F17 := fun_mk (st := sUnitRootsOfTwo) l17 c17 k17
  have F18 := fun_mk (st := sPrimeRoot) l18 c18 k18
  have F19 := fun_mk (st := sLeastNonResidue) l19 c19 k19
  have F20 := fun_mk (st := sDoublingsToOne) l20 c20 k20
  have F21 := fun_mk (st := sLiftedRoot) l21 c21 k21
  have F22 := fun_mk (st := sLawCell) l22 c22 k22
  have F23 := fun_mk (st := sLawNumbers) l23 c23 k23
  have F24 := fun_mk (st := sLawState) l24 c24 k24
  have F25 := fun_mk (st := sLawNext) l25 c25 k25
  have F26 := fun_mk (st := sLawWide) l26 c26 k26
  have F27 := fun_mk (st := sLaw) l27 c27 k27
  have b0 := F0.binds (ps := ["a", "b"]) fun _ _ _ _ _ _ us hl => match us, hl with | [_, _], _ => rfl
  have b1 := F1.binds (ps := ["base", "many"]) fun _ _ _ _ _ _ us hl => match us, hl with | [_, _], _ => rfl
  have b2 := F2.binds (ps := ["base", "many", "modulus"]) fun _ _ _ _ _ _ us hl => match us, hl with | [_, _, _], _ => rfl
  have b3 := F3.binds (ps := ["n", "p"]) fun _ _ _ _ _ _ us hl => match us, hl with | [_, _], _ => rfl
  have b4 := F4.binds (ps := ["n"]) fun _ _ _ _ _ _ us hl => match us, hl with | [_], _ => rfl
  have b5 := F5.binds (ps := ["n", "base", "many", "odd"]) fun _ _ _ _ _ _ us hl => match us, hl with | [_, _, _, _], _ => rfl
  have b6 := F6.binds (ps := ["n"]) fun _ _ _ _ _ _ us hl => match us, hl with | [_], _ => rfl
  have b7 := F7.binds (ps := ["n", "start"]) fun _ _ _ _ _ _ us hl => match us, hl with | [_, _], _ => rfl
  have b8 := F8.binds (ps := ["d", "m"]) fun _ _ _ _ _ _ us hl => match us, hl with | [_, _], _ => rfl
  have b9 := F9.binds (ps := ["d", "m"]) fun _ _ _ _ _ _ us hl => match us, hl with | [_, _], _ => rfl
  have b10 := F10.binds (ps := ["d", "parts"]) fun _ _ _ _ _ _ us hl => match us, hl with | [_, _], _ => rfl
  have b11 := F11.binds (ps := ["d", "p"]) fun _ _ _ _ _ _ us hl => match us, hl with | [_, _], _ => rfl
  have b12 := F12.binds (ps := ["roots", "modulus", "others", "part"]) fun _ _ _ _ _ _ us hl => match us, hl with | [_, _, _, _], _ => rfl
  have b13 := F13.binds (ps := ["d", "p", "many"]) fun _ _ _ _ _ _ us hl => match us, hl with | [_, _, _], _ => rfl
  have b14 := F14.binds (ps := ["unit", "p", "many"]) fun _ _ _ _ _ _ us hl => match us, hl with | [_, _, _], _ => rfl
  have b15 := F15.binds (ps := ["d", "p", "many"]) fun _ _ _ _ _ _ us hl => match us, hl with | [_, _, _], _ => rfl
  have b16 := F16.binds (ps := ["unit", "p", "many"]) fun _ _ _ _ _ _ us hl => match us, hl with | [_, _, _], _ => rfl
  have b17 := F17.binds (ps := ["unit", "many"]) fun _ _ _ _ _ _ us hl => match us, hl with | [_, _], _ => rfl
  have b18 := F18.binds (ps := ["unit", "p"]) fun _ _ _ _ _ _ us hl => match us, hl with | [_, _], _ => rfl
  have b19 := F19.binds (ps := ["p"]) fun _ _ _ _ _ _ us hl => match us, hl with | [_], _ => rfl
  have b20 := F20.binds (ps := ["number", "p"]) fun _ _ _ _ _ _ us hl => match us, hl with | [_, _], _ => rfl
  have b21 := F21.binds (ps := ["root", "unit", "p", "many"]) fun _ _ _ _ _ _ us hl => match us, hl with | [_, _, _, _], _ => rfl
  have b22 := F22.binds (ps := ["script", "k"]) fun _ _ _ _ _ _ us hl => match us, hl with | [_, _], _ => rfl
  have b23 := F23.binds (ps := ["cell", "many"]) fun _ _ _ _ _ _ us hl => match us, hl with | [_, _], _ => rfl
  have b24 := F24.binds (ps := ["script"]) fun _ _ _ _ _ _ us hl => match us, hl with | [_], _ => rfl
  have b25 := F25.binds (ps := ["state", "many"]) fun _ _ _ _ _ _ us hl => match us, hl with | [_, _], _ => rfl
  have b26 := F26.binds (ps := ["state", "many"]) fun _ _ _ _ _ _ us hl => match us, hl with | [_, _], _ => rfl
  have b27 := F27.binds (ps := ["script"]) fun _ _ _ _ _ _ us hl => match us, hl with | [_], _ => rfl
  let fa : Nat → Addr := fun i => [f0, f1, f2, f3, f4, f5, f6, f7, f8, f9, f10, f11, f12, f13, f14, f15, f16, f17, f18, f19, f20, f21, f22, f23, f24, f25, f26, f, fw0].getD i 0
  let fd : Nat → FuncData := fun i => match i with
    | 0 => PySem.W.fnOf "bezout" "bezout" (defArgs sBezout) (defBody sBezout) (defScope sBezout) .none kV0 dc0 pm0 an0 cd0 ct0
    | 1 => PySem.W.fnOf "power" "power" (defArgs sPower) (defBody sPower) (defScope sPower) .none kV1 dc1 pm1 an1 cd1 ct1
    | 2 => PySem.W.fnOf "power_modulo" "power_modulo" (defArgs sPowerModulo) (defBody sPowerModulo) (defScope sPowerModulo) .none kV2 dc2 pm2 an2 cd2 ct2
    | 3 => PySem.W.fnOf "taken_out" "taken_out" (defArgs sTakenOut) (defBody sTakenOut) (defScope sTakenOut) .none kV3 dc3 pm3 an3 cd3 ct3
    | 4 => PySem.W.fnOf "is_prime" "is_prime" (defArgs sIsPrime) (defBody sIsPrime) (defScope sIsPrime) .none kV4 dc4 pm4 an4 cd4 ct4
    | 5 => PySem.W.fnOf "_behaves_as_prime" "_behaves_as_prime" (defArgs sBehavesAsPrime) (defBody sBehavesAsPrime) (defScope sBehavesAsPrime) .none kV5 dc5 pm5 an5 cd5 ct5
    | 6 => PySem.W.fnOf "prime_parts" "prime_parts" (defArgs sPrimeParts) (defBody sPrimeParts) (defScope sPrimeParts) .none kV6 dc6 pm6 an6 cd6 ct6
    | 7 => PySem.W.fnOf "_least_measure" "_least_measure" (defArgs sLeastMeasure) (defBody sLeastMeasure) (defScope sLeastMeasure) .none kV7 dc7 pm7 an7 cd7 ct7
    | 8 => PySem.W.fnOf "square_roots" "square_roots" (defArgs sSquareRoots) (defBody sSquareRoots) (defScope sSquareRoots) .none kV8 dc8 pm8 an8 cd8 ct8
    | 9 => PySem.W.fnOf "count_roots" "count_roots" (defArgs sCountRoots) (defBody sCountRoots) (defScope sCountRoots) .none kV9 dc9 pm9 an9 cd9 ct9
    | 10 => PySem.W.fnOf "count_roots_by_parts" "count_roots_by_parts" (defArgs sCountRootsByParts) (defBody sCountRootsByParts) (defScope sCountRootsByParts) .none kV10 dc10 pm10 an10 cd10 ct10
    | 11 => PySem.W.fnOf "is_residue" "is_residue" (defArgs sIsResidue) (defBody sIsResidue) (defScope sIsResidue) .none kV11 dc11 pm11 an11 cd11 ct11
    | 12 => PySem.W.fnOf "_joined" "_joined" (defArgs sJoined) (defBody sJoined) (defScope sJoined) .none kV12 dc12 pm12 an12 cd12 ct12
    | 13 => PySem.W.fnOf "_count_power_roots" "_count_power_roots" (defArgs sCountPowerRoots) (defBody sCountPowerRoots) (defScope sCountPowerRoots) .none kV13 dc13 pm13 an13 cd13 ct13
    | 14 => PySem.W.fnOf "_count_unit_roots" "_count_unit_roots" (defArgs sCountUnitRoots) (defBody sCountUnitRoots) (defScope sCountUnitRoots) .none kV14 dc14 pm14 an14 cd14 ct14
    | 15 => PySem.W.fnOf "_power_roots" "_power_roots" (defArgs sPowerRoots) (defBody sPowerRoots) (defScope sPowerRoots) .none kV15 dc15 pm15 an15 cd15 ct15
    | 16 => PySem.W.fnOf "_unit_roots" "_unit_roots" (defArgs sUnitRoots) (defBody sUnitRoots) (defScope sUnitRoots) .none kV16 dc16 pm16 an16 cd16 ct16
    | 17 => PySem.W.fnOf "_unit_roots_of_two" "_unit_roots_of_two" (defArgs sUnitRootsOfTwo) (defBody sUnitRootsOfTwo) (defScope sUnitRootsOfTwo) .none kV17 dc17 pm17 an17 cd17 ct17
    | 18 => PySem.W.fnOf "_prime_root" "_prime_root" (defArgs sPrimeRoot) (defBody sPrimeRoot) (defScope sPrimeRoot) .none kV18 dc18 pm18 an18 cd18 ct18
    | 19 => PySem.W.fnOf "_least_non_residue" "_least_non_residue" (defArgs sLeastNonResidue) (defBody sLeastNonResidue) (defScope sLeastNonResidue) .none kV19 dc19 pm19 an19 cd19 ct19
    | 20 => PySem.W.fnOf "_doublings_to_one" "_doublings_to_one" (defArgs sDoublingsToOne) (defBody sDoublingsToOne) (defScope sDoublingsToOne) .none kV20 dc20 pm20 an20 cd20 ct20
    | 21 => PySem.W.fnOf "_lifted_root" "_lifted_root" (defArgs sLiftedRoot) (defBody sLiftedRoot) (defScope sLiftedRoot) .none kV21 dc21 pm21 an21 cd21 ct21
    | 22 => PySem.W.fnOf "_law_cell" "_law_cell" (defArgs sLawCell) (defBody sLawCell) (defScope sLawCell) .none kV22 dc22 pm22 an22 cd22 ct22
    | 23 => PySem.W.fnOf "_law_numbers" "_law_numbers" (defArgs sLawNumbers) (defBody sLawNumbers) (defScope sLawNumbers) .none kV23 dc23 pm23 an23 cd23 ct23
    | 24 => PySem.W.fnOf "_law_state" "_law_state" (defArgs sLawState) (defBody sLawState) (defScope sLawState) .none kV24 dc24 pm24 an24 cd24 ct24
    | 25 => PySem.W.fnOf "_law_next" "_law_next" (defArgs sLawNext) (defBody sLawNext) (defScope sLawNext) .none kV25 dc25 pm25 an25 cd25 ct25
    | 26 => PySem.W.fnOf "_law_wide" "_law_wide" (defArgs sLawWide) (defBody sLawWide) (defScope sLawWide) .none kV26 dc26 pm26 an26 cd26 ct26
    | _ => PySem.W.fnOf "law" "law" (defArgs sLaw) (defBody sLaw) (defScope sLaw) .none kV27 dc27 pm27 an27 cd27 ct27
  have T : Txt K mg fa fd := {
    F_bezout := F0, B_bezout := b0, G_bezout := PySem.W.mg_of X G a0,
    F_power := F1, B_power := b1, G_power := PySem.W.mg_of X G a1,
    F_power_modulo := F2, B_power_modulo := b2, G_power_modulo := PySem.W.mg_of X G a2,
    F_taken_out := F3, B_taken_out := b3, G_taken_out := PySem.W.mg_of X G a3,
    F_is_prime := F4, B_is_prime := b4, G_is_prime := PySem.W.mg_of X G a4,
    F__behaves_as_prime := F5, B__behaves_as_prime := b5, G__behaves_as_prime := PySem.W.mg_of X G a5,
    F_prime_parts := F6, B_prime_parts := b6, G_prime_parts := PySem.W.mg_of X G a6,
    F__least_measure := F7, B__least_measure := b7, G__least_measure := PySem.W.mg_of X G a7,
    F_square_roots := F8, B_square_roots := b8, G_square_roots := PySem.W.mg_of X G a8,
    F_count_roots := F9, B_count_roots := b9, G_count_roots := PySem.W.mg_of X G a9,
    F_count_roots_by_parts := F10, B_count_roots_by_parts := b10, G_count_roots_by_parts := PySem.W.mg_of X G a10,
    F_is_residue := F11, B_is_residue := b11, G_is_residue := PySem.W.mg_of X G a11,
    F__joined := F12, B__joined := b12, G__joined := PySem.W.mg_of X G a12,
    F__count_power_roots := F13, B__count_power_roots := b13, G__count_power_roots := PySem.W.mg_of X G a13,
    F__count_unit_roots := F14, B__count_unit_roots := b14, G__count_unit_roots := PySem.W.mg_of X G a14,
    F__power_roots := F15, B__power_roots := b15, G__power_roots := PySem.W.mg_of X G a15,
    F__unit_roots := F16, B__unit_roots := b16, G__unit_roots := PySem.W.mg_of X G a16,
    F__unit_roots_of_two := F17, B__unit_roots_of_two := b17, G__unit_roots_of_two := PySem.W.mg_of X G a17,
    F__prime_root := F18, B__prime_root := b18, G__prime_root := PySem.W.mg_of X G a18,
    F__least_non_residue := F19, B__least_non_residue := b19, G__least_non_residue := PySem.W.mg_of X G a19,
    F__doublings_to_one := F20, B__doublings_to_one := b20, G__doublings_to_one := PySem.W.mg_of X G a20,
    F__lifted_root := F21, B__lifted_root := b21, G__lifted_root := PySem.W.mg_of X G a21,
    F__law_cell := F22, B__law_cell := b22, G__law_cell := PySem.W.mg_of X G a22,
    F__law_numbers := F23, B__law_numbers := b23, G__law_numbers := PySem.W.mg_of X G a23,
    F__law_state := F24, B__law_state := b24, G__law_state := PySem.W.mg_of X G a24,
    F__law_next := F25, B__law_next := b25, G__law_next := PySem.W.mg_of X G a25,
    F__law_wide := F26, B__law_wide := b26, G__law_wide := PySem.W.mg_of X G a26,
    F_law := F27, B_law := b27, G_law := PySem.W.mg_of X G a27,
    m_abs := PySem.W.mg_none_of X G z0, m_int := PySem.W.mg_none_of X G z1, m_len := PySem.W.mg_none_of X G z2, m_list := PySem.W.mg_none_of X G z3, m_max := PySem.W.mg_none_of X G z4, m_range := PySem.W.mg_none_of X G z5, m_sorted := PySem.W.mg_none_of X G z6, g_WITNESSES := PySem.W.mg_of X G w0, S_WITNESSES := fun H => .inr ⟨_, _, _, x0, rfl, rfl, y0, v0⟩ }
  exact ⟨fd 27, fun s v => .of_eq rfl, fun base _ _ => okLaw T⟩
end Wc
open PySem PySem.W PyProof.Rows
set_option maxHeartbeats 0 in
theorem PySem.Challenge.cw_wholeconic_k04_roots_of_great_moduli_holds : PySem.Challenge.rw_wholeconic_k04_roots_of_great_moduli.Holds := by
  w_on; o_law; k_head; (case hw => w_witness2)
  k_fill
  refine L2.walk_of (l := PySem.Challenge.rw_wholeconic_k04_roots_of_great_moduli) (n := 63) (k := 8) (x := "script") (CX := fun _ => L2.CX0) (sp := fun w => Wc.spLaw _) rfl (by decide) rfl ⟨rfl, by decide, by decide⟩ (fun w h Y => PySem.W.kIn_of Y) ?F (fun _ _ a ns hl _ hS => ⟨a, ns, rfl, hS, hl, fun _ => rfl⟩) (fun _ _ _ _ _ h => h)
  case F =>
    intro w mg fa h KX G hmg
    refine' Wc.all_mk KX G hmg ?a0 ?l0 ?c0 ?k0 ?a1 ?l1 ?c1 ?k1 ?a2 ?l2 ?c2 ?k2 ?a3 ?l3 ?c3 ?k3 ?a4 ?l4 ?c4 ?k4 ?a5 ?l5 ?c5 ?k5 ?a6 ?l6 ?c6 ?k6 ?a7 ?l7 ?c7 ?k7 ?a8 ?l8 ?c8 ?k8 ?a9 ?l9 ?c9 ?k9 ?a10 ?l10 ?c10 ?k10 ?a11 ?l11 ?c11 ?k11 ?a12 ?l12 ?c12 ?k12 ?a13 ?l13 ?c13 ?k13 ?a14 ?l14 ?c14 ?k14 ?a15 ?l15 ?c15 ?k15 ?a16 ?l16 ?c16 ?k16 ?a17 ?l17 ?c17 ?k17 ?a18 ?l18 ?c18 ?k18 ?a19 ?l19 ?c19 ?k19 ?a20 ?l20 ?c20 ?k20 ?a21 ?l21 ?c21 ?k21 ?a22 ?l22 ?c22 ?k22 ?a23 ?l23 ?c23 ?k23 ?a24 ?l24 ?c24 ?k24 ?a25 ?l25 ?c25 ?k25 ?a26 ?l26 ?c26 ?k26 ?a27 ?l27 ?c27 ?k27 ?z0 ?z1 ?z2 ?z3 ?z4 ?z5 ?z6 ?w0 ?x0 ?y0 ?v0
    (case a0 => k_is); (case l0 => k_is); (case c0 => k_is); (case k0 => k_is); (case a1 => k_is); (case l1 => k_is); (case c1 => k_is); (case k1 => k_is); (case a2 => k_is); (case l2 => k_is); (case c2 => k_is); (case k2 => k_is); (case a3 => k_is); (case l3 => k_is); (case c3 => k_is); (case k3 => k_is); (case a4 => k_is); (case l4 => k_is); (case c4 => k_is); (case k4 => k_is); (case a5 => k_is); (case l5 => k_is); (case c5 => k_is); (case k5 => k_is); (case a6 => k_is); (case l6 => k_is); (case c6 => k_is); (case k6 => k_is); (case a7 => k_is); (case l7 => k_is); (case c7 => k_is); (case k7 => k_is); (case a8 => k_is); (case l8 => k_is); (case c8 => k_is); (case k8 => k_is); (case a9 => k_is); (case l9 => k_is); (case c9 => k_is); (case k9 => k_is); (case a10 => k_is); (case l10 => k_is); (case c10 => k_is); (case k10 => k_is); (case a11 => k_is); (case l11 => k_is); (case c11 => k_is); (case k11 => k_is); (case a12 => k_is); (case l12 => k_is); (case c12 => k_is); (case k12 => k_is); (case a13 => k_is); (case l13 => k_is); (case c13 => k_is); (case k13 => k_is); (case a14 => k_is); (case l14 => k_is); (case c14 => k_is); (case k14 => k_is); (case a15 => k_is); (case l15 => k_is); (case c15 => k_is); (case k15 => k_is); (case a16 => k_is); (case l16 => k_is); (case c16 => k_is); (case k16 => k_is); (case a17 => k_is); (case l17 => k_is); (case c17 => k_is); (case k17 => k_is); (case a18 => k_is); (case l18 => k_is); (case c18 => k_is); (case k18 => k_is); (case a19 => k_is); (case l19 => k_is); (case c19 => k_is); (case k19 => k_is); (case a20 => k_is); (case l20 => k_is); (case c20 => k_is); (case k20 => k_is); (case a21 => k_is); (case l21 => k_is); (case c21 => k_is); (case k21 => k_is); (case a22 => k_is); (case l22 => k_is); (case c22 => k_is); (case k22 => k_is); (case a23 => k_is); (case l23 => k_is); (case c23 => k_is); (case k23 => k_is); (case a24 => k_is); (case l24 => k_is); (case c24 => k_is); (case k24 => k_is); (case a25 => k_is); (case l25 => k_is); (case c25 => k_is); (case k25 => k_is); (case a26 => k_is); (case l26 => k_is); (case c26 => k_is); (case k26 => k_is); (case a27 => k_is); (case l27 => k_is); (case c27 => k_is); (case k27 => k_is); (case z0 => k_is); (case z1 => k_is); (case z2 => k_is); (case z3 => k_is); (case z4 => k_is); (case z5 => k_is); (case z6 => k_is); (case w0 => k_is); (case x0 => k_is); (case y0 => exact (by decide)); (case v0 => (repeat (first | exact .nil | refine .cons ⟨_, rfl⟩ ?_)))
