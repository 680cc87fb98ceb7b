import PyProof.Rows.All
import Wide.All
import OpenK.AllK
import Wide.FinOn
import HandS.ForMost
import HandS.Wide
import HandS.Gcd
import HandS.Style
import HandS.IsInst
import HandS.Codes
import HandS.NoneIn
import HandS.Deep
import HandS.SortInts
import HandS.SortRule
import Flt.RightSqrt
import HandS.WideBits
import HandS.Conv
import PySem.Challenge.RW_wholeconic_k23_split_representations
set_option Elab.async false
set_option linter.all false
set_option maxRecDepth 100000
set_option maxHeartbeats 4000000
namespace Wc
open PySem PySem.Spec PyProof.Rows L2
/-! ### the text -/
def topS (i : Nat) : Stmt := PySem.Challenge.pw_wholeconic_k23_split_representations.main.body.getD i (.Pass ⟨0, 0, 0, 0⟩)
abbrev sBezout : Stmt := topS 3
theorem scBezout : FnScope ["a", "b", "g", "u", "v", "rest", "rest_u", "rest_v", "part"] ["a", "b"] (defScope sBezout) := ⟨rfl, rfl, rfl, by decide +kernel, rfl, by decide +kernel, by decide +kernel⟩
abbrev sMeasure : Stmt := topS 4
theorem scMeasure : FnScope ["numbers", "found", "number"] ["numbers"] (defScope sMeasure) := ⟨rfl, rfl, rfl, by decide +kernel, rfl, by decide +kernel, by decide +kernel⟩
abbrev sFloorRoot : Stmt := topS 5
theorem scFloorRoot : FnScope ["n"] ["n"] (defScope sFloorRoot) := ⟨rfl, rfl, rfl, by decide +kernel, rfl, by decide +kernel, by decide +kernel⟩
abbrev sIsSquare : Stmt := topS 6
theorem scIsSquare : FnScope ["n", "root"] ["n"] (defScope sIsSquare) := ⟨rfl, rfl, rfl, by decide +kernel, rfl, by decide +kernel, by decide +kernel⟩
abbrev sPower : Stmt := topS 7
theorem scPower : FnScope ["base", "many", "result", "_"] ["base", "many"] (defScope sPower) := ⟨rfl, rfl, rfl, by decide +kernel, rfl, by decide +kernel, by decide +kernel⟩
abbrev sPowerModulo : Stmt := topS 8
theorem scPowerModulo : FnScope ["base", "many", "modulus", "result", "square"] ["base", "many", "modulus"] (defScope sPowerModulo) := ⟨rfl, rfl, rfl, by decide +kernel, rfl, by decide +kernel, by decide +kernel⟩
abbrev sTakenOut : Stmt := topS 9
theorem scTakenOut : FnScope ["n", "p", "many"] ["n", "p"] (defScope sTakenOut) := ⟨rfl, rfl, rfl, by decide +kernel, rfl, by decide +kernel, by decide +kernel⟩
abbrev sIsPrime : Stmt := topS 10
theorem scIsPrime : FnScope ["n", "p", "many", "odd", "base"] ["n"] (defScope sIsPrime) := ⟨rfl, rfl, rfl, by decide +kernel, rfl, by decide +kernel, by decide +kernel⟩
abbrev sBehavesAsPrime : Stmt := topS 11
theorem scBehavesAsPrime : FnScope ["n", "base", "many", "odd", "number", "_"] ["n", "base", "many", "odd"] (defScope sBehavesAsPrime) := ⟨rfl, rfl, rfl, by decide +kernel, rfl, by decide +kernel, by decide +kernel⟩
abbrev sPrimeParts : Stmt := topS 12
theorem scPrimeParts : FnScope ["n", "parts", "rest", "p", "many"] ["n"] (defScope sPrimeParts) := ⟨rfl, rfl, rfl, by decide +kernel, rfl, by decide +kernel, by decide +kernel⟩
abbrev sLeastMeasure : Stmt := topS 13
theorem scLeastMeasure : FnScope ["n", "start", "number"] ["n", "start"] (defScope sLeastMeasure) := ⟨rfl, rfl, rfl, by decide +kernel, rfl, by decide +kernel, by decide +kernel⟩
abbrev sProducts : Stmt := topS 16
theorem scProducts : FnScope ["parts", "found", "p", "many", "powers", "k", "g", "part"] ["parts"] (defScope sProducts) := ⟨rfl, rfl, rfl, by decide +kernel, rfl, by decide +kernel, by decide +kernel⟩
abbrev sDiscriminant : Stmt := topS 18
theorem scDiscriminant : FnScope ["form", "a", "b", "c"] ["form"] (defScope sDiscriminant) := ⟨rfl, rfl, rfl, by decide +kernel, rfl, by decide +kernel, by decide +kernel⟩
abbrev sWorth : Stmt := topS 20
theorem scWorth : FnScope ["form", "point", "a", "b", "c", "x", "y"] ["form", "point"] (defScope sWorth) := ⟨rfl, rfl, rfl, by decide +kernel, rfl, by decide +kernel, by decide +kernel⟩
abbrev sAct : Stmt := topS 21
theorem scAct : FnScope ["form", "m", "a", "b", "c", "p", "q", "r", "s", "middle"] ["form", "m"] (defScope sAct) := ⟨rfl, rfl, rfl, by decide +kernel, rfl, by decide +kernel, by decide +kernel⟩
abbrev sKind : Stmt := topS 24
theorem scKind : FnScope ["form", "d"] ["form"] (defScope sKind) := ⟨rfl, rfl, rfl, by decide +kernel, rfl, by decide +kernel, by decide +kernel⟩
abbrev sMultiply : Stmt := topS 27
theorem scMultiply : FnScope ["m", "n", "p", "q", "r", "s", "p2", "q2", "r2", "s2"] ["m", "n"] (defScope sMultiply) := ⟨rfl, rfl, rfl, by decide +kernel, rfl, by decide +kernel, by decide +kernel⟩
abbrev sApply : Stmt := topS 29
theorem scApply : FnScope ["m", "point", "p", "q", "r", "s", "x", "y"] ["m", "point"] (defScope sApply) := ⟨rfl, rfl, rfl, by decide +kernel, rfl, by decide +kernel, by decide +kernel⟩
abbrev sCompleted : Stmt := topS 32
theorem scCompleted : FnScope ["point", "x", "y", "_", "u", "v"] ["point"] (defScope sCompleted) := ⟨rfl, rfl, rfl, by decide +kernel, rfl, by decide +kernel, by decide +kernel⟩
abbrev sZeroLines : Stmt := topS 47
theorem scZeroLines : FnScope ["form", "a", "b", "c", "root"] ["form"] (defScope sZeroLines) := ⟨rfl, rfl, rfl, by decide +kernel, rfl, by decide +kernel, by decide +kernel⟩
abbrev sDirected : Stmt := topS 48
theorem scDirected : FnScope ["x", "y", "g"] ["x", "y"] (defScope sDirected) := ⟨rfl, rfl, rfl, by decide +kernel, rfl, by decide +kernel, by decide +kernel⟩
abbrev sCanonicalSplit : Stmt := topS 49
theorem scCanonicalSplit : FnScope ["form", "first", "second", "m", "_", "k", "c", "step", "point"] ["form"] (defScope sCanonicalSplit) := ⟨rfl, rfl, rfl, by decide +kernel, rfl, by decide +kernel, by decide +kernel⟩
abbrev sCanonicalForm : Stmt := topS 53
theorem scCanonicalForm : FnScope ["form", "word"] ["form"] (defScope sCanonicalForm) := ⟨rfl, rfl, rfl, by decide +kernel, rfl, by decide +kernel, by decide +kernel⟩
abbrev sSplitPoints : Stmt := topS 71
theorem scSplitPoints : FnScope ["form", "n", "_", "k", "c", "m", "found", "y", "rest"] ["form", "n"] (defScope sSplitPoints) := ⟨rfl, rfl, rfl, by decide +kernel, rfl, by decide +kernel, by decide +kernel⟩
abbrev sMeasures : Stmt := topS 72
theorem scMeasures : FnScope ["n", "found", "g"] ["n"] (defScope sMeasures) := ⟨rfl, rfl, rfl, by decide +kernel, rfl, by decide +kernel, by decide +kernel⟩
abbrev sIsRepresented : Stmt := topS 73
theorem scIsRepresented : FnScope ["form", "n"] ["form", "n"] (defScope sIsRepresented) := ⟨rfl, rfl, rfl, by decide +kernel, rfl, by decide +kernel, by decide +kernel⟩
abbrev sLawCell : Stmt := topS 75
theorem scLawCell : FnScope ["script", "k"] ["script", "k"] (defScope sLawCell) := ⟨rfl, rfl, rfl, by decide +kernel, rfl, by decide +kernel, by decide +kernel⟩
abbrev sLawNumbers : Stmt := topS 76
theorem scLawNumbers : FnScope ["cell", "many", "rest", "span", "numbers", "k", "mixed"] ["cell", "many"] (defScope sLawNumbers) := ⟨rfl, rfl, rfl, by decide +kernel, rfl, by decide +kernel, by decide +kernel⟩
abbrev sLawState : Stmt := topS 77
theorem scLawState : FnScope ["script", "numbers", "k"] ["script"] (defScope sLawState) := ⟨rfl, rfl, rfl, by decide +kernel, rfl, by decide +kernel, by decide +kernel⟩
abbrev sLawNext : Stmt := topS 78
theorem scLawNext : FnScope ["state", "many", "number"] ["state", "many"] (defScope sLawNext) := ⟨rfl, rfl, rfl, by decide +kernel, rfl, by decide +kernel, by decide +kernel⟩
abbrev sLawRoot : Stmt := topS 80
theorem scLawRoot : FnScope ["n", "low", "high", "k", "middle"] ["n"] (defScope sLawRoot) := ⟨rfl, rfl, rfl, by decide +kernel, rfl, by decide +kernel, by decide +kernel⟩
abbrev sLawMul : Stmt := topS 82
theorem scLawMul : FnScope ["m", "n", "top"] ["m", "n"] (defScope sLawMul) := ⟨rfl, rfl, rfl, by decide +kernel, rfl, by decide +kernel, by decide +kernel⟩
abbrev sLawWorth : Stmt := topS 84
theorem scLawWorth : FnScope ["form", "x", "y"] ["form", "x", "y"] (defScope sLawWorth) := ⟨rfl, rfl, rfl, by decide +kernel, rfl, by decide +kernel, by decide +kernel⟩
abbrev sLawAct : Stmt := topS 85
theorem scLawAct : FnScope ["form", "m", "first", "last"] ["form", "m"] (defScope sLawAct) := ⟨rfl, rfl, rfl, by decide +kernel, rfl, by decide +kernel, by decide +kernel⟩
abbrev sLawChange : Stmt := topS 86
theorem scLawChange : FnScope ["state", "many", "m", "k", "t"] ["state", "many"] (defScope sLawChange) := ⟨rfl, rfl, rfl, by decide +kernel, rfl, by decide +kernel, by decide +kernel⟩
abbrev sLawSplit : Stmt := topS 89
theorem scLawSplit : FnScope ["state", "p", "q", "r", "s", "g", "k"] ["state"] (defScope sLawSplit) := ⟨rfl, rfl, rfl, by decide +kernel, rfl, by decide +kernel, by decide +kernel⟩
abbrev sLawLines : Stmt := topS 92
theorem scLawLines : FnScope ["form", "a", "b", "c", "k"] ["form"] (defScope sLawLines) := ⟨rfl, rfl, rfl, by decide +kernel, rfl, by decide +kernel, by decide +kernel⟩
abbrev sLawSearch : Stmt := topS 93
theorem scLawSearch : FnScope ["form", "n", "times", "first", "second", "found", "whole", "step", "one", "other", "x", "y"] ["form", "n"] (defScope sLawSearch) := ⟨rfl, rfl, rfl, by decide +kernel, rfl, by decide +kernel, by decide +kernel⟩
abbrev sLaw : Stmt := topS 94
theorem scLaw : FnScope ["script", "state", "form", "n", "due", "one"] ["script"] (defScope sLaw) := ⟨rfl, rfl, rfl, by decide +kernel, rfl, by decide +kernel, by decide +kernel⟩
structure Txt (K : PySem.W.Frag) (mg : Str → Option Value) (fa : Nat → Addr) (fd : Nat → FuncData) : Prop where
  F_bezout : Fun K "bezout" "bezout" sBezout (fa 0) (fd 0)
  B_bezout : Binds K (fd 0) ["a", "b"] []
  G_bezout : mg "bezout" = some (.ref (fa 0))
  F_measure : Fun K "measure" "measure" sMeasure (fa 1) (fd 1)
  B_measure : Binds K (fd 1) ["numbers"] []
  G_measure : mg "measure" = some (.ref (fa 1))
  F_floor_root : Fun K "floor_root" "floor_root" sFloorRoot (fa 2) (fd 2)
  B_floor_root : Binds K (fd 2) ["n"] []
  G_floor_root : mg "floor_root" = some (.ref (fa 2))
  F_is_square : Fun K "is_square" "is_square" sIsSquare (fa 3) (fd 3)
  B_is_square : Binds K (fd 3) ["n"] []
  G_is_square : mg "is_square" = some (.ref (fa 3))
  F_power : Fun K "power" "power" sPower (fa 4) (fd 4)
  B_power : Binds K (fd 4) ["base", "many"] []
  G_power : mg "power" = some (.ref (fa 4))
  F_power_modulo : Fun K "power_modulo" "power_modulo" sPowerModulo (fa 5) (fd 5)
  B_power_modulo : Binds K (fd 5) ["base", "many", "modulus"] []
  G_power_modulo : mg "power_modulo" = some (.ref (fa 5))
  F_taken_out : Fun K "taken_out" "taken_out" sTakenOut (fa 6) (fd 6)
  B_taken_out : Binds K (fd 6) ["n", "p"] []
  G_taken_out : mg "taken_out" = some (.ref (fa 6))
  F_is_prime : Fun K "is_prime" "is_prime" sIsPrime (fa 7) (fd 7)
  B_is_prime : Binds K (fd 7) ["n"] []
  G_is_prime : mg "is_prime" = some (.ref (fa 7))
  F__behaves_as_prime : Fun K "_behaves_as_prime" "_behaves_as_prime" sBehavesAsPrime (fa 8) (fd 8)
  B__behaves_as_prime : Binds K (fd 8) ["n", "base", "many", "odd"] []
  G__behaves_as_prime : mg "_behaves_as_prime" = some (.ref (fa 8))
  F_prime_parts : Fun K "prime_parts" "prime_parts" sPrimeParts (fa 9) (fd 9)
  B_prime_parts : Binds K (fd 9) ["n"] []
  G_prime_parts : mg "prime_parts" = some (.ref (fa 9))
  F__least_measure : Fun K "_least_measure" "_least_measure" sLeastMeasure (fa 10) (fd 10)
  B__least_measure : Binds K (fd 10) ["n", "start"] []
  G__least_measure : mg "_least_measure" = some (.ref (fa 10))
  F_products : Fun K "products" "products" sProducts (fa 11) (fd 11)
  B_products : Binds K (fd 11) ["parts"] []
  G_products : mg "products" = some (.ref (fa 11))
  F_discriminant : Fun K "discriminant" "discriminant" sDiscriminant (fa 12) (fd 12)
  B_discriminant : Binds K (fd 12) ["form"] []
  G_discriminant : mg "discriminant" = some (.ref (fa 12))
  F_worth : Fun K "worth" "worth" sWorth (fa 13) (fd 13)
  B_worth : Binds K (fd 13) ["form", "point"] []
  G_worth : mg "worth" = some (.ref (fa 13))
  F_act : Fun K "act" "act" sAct (fa 14) (fd 14)
  B_act : Binds K (fd 14) ["form", "m"] []
  G_act : mg "act" = some (.ref (fa 14))
  F_kind : Fun K "kind" "kind" sKind (fa 15) (fd 15)
  B_kind : Binds K (fd 15) ["form"] []
  G_kind : mg "kind" = some (.ref (fa 15))
  F_multiply : Fun K "multiply" "multiply" sMultiply (fa 16) (fd 16)
  B_multiply : Binds K (fd 16) ["m", "n"] []
  G_multiply : mg "multiply" = some (.ref (fa 16))
  F_apply : Fun K "apply" "apply" sApply (fa 17) (fd 17)
  B_apply : Binds K (fd 17) ["m", "point"] []
  G_apply : mg "apply" = some (.ref (fa 17))
  F_completed : Fun K "completed" "completed" sCompleted (fa 18) (fd 18)
  B_completed : Binds K (fd 18) ["point"] []
  G_completed : mg "completed" = some (.ref (fa 18))
  F_zero_lines : Fun K "zero_lines" "zero_lines" sZeroLines (fa 19) (fd 19)
  B_zero_lines : Binds K (fd 19) ["form"] []
  G_zero_lines : mg "zero_lines" = some (.ref (fa 19))
  F_directed : Fun K "directed" "directed" sDirected (fa 20) (fd 20)
  B_directed : Binds K (fd 20) ["x", "y"] []
  G_directed : mg "directed" = some (.ref (fa 20))
  F_canonical_split : Fun K "canonical_split" "canonical_split" sCanonicalSplit (fa 21) (fd 21)
  B_canonical_split : Binds K (fd 21) ["form"] []
  G_canonical_split : mg "canonical_split" = some (.ref (fa 21))
  F_canonical_form : Fun K "canonical_form" "canonical_form" sCanonicalForm (fa 22) (fd 22)
  B_canonical_form : Binds K (fd 22) ["form"] []
  G_canonical_form : mg "canonical_form" = some (.ref (fa 22))
  F_split_points : Fun K "split_points" "split_points" sSplitPoints (fa 23) (fd 23)
  B_split_points : Binds K (fd 23) ["form", "n"] []
  G_split_points : mg "split_points" = some (.ref (fa 23))
  F_measures : Fun K "measures" "measures" sMeasures (fa 24) (fd 24)
  B_measures : Binds K (fd 24) ["n"] []
  G_measures : mg "measures" = some (.ref (fa 24))
  F_is_represented : Fun K "is_represented" "is_represented" sIsRepresented (fa 25) (fd 25)
  B_is_represented : Binds K (fd 25) ["form", "n"] []
  G_is_represented : mg "is_represented" = some (.ref (fa 25))
  F__law_cell : Fun K "_law_cell" "_law_cell" sLawCell (fa 26) (fd 26)
  B__law_cell : Binds K (fd 26) ["script", "k"] []
  G__law_cell : mg "_law_cell" = some (.ref (fa 26))
  F__law_numbers : Fun K "_law_numbers" "_law_numbers" sLawNumbers (fa 27) (fd 27)
  B__law_numbers : Binds K (fd 27) ["cell", "many"] []
  G__law_numbers : mg "_law_numbers" = some (.ref (fa 27))
  F__law_state : Fun K "_law_state" "_law_state" sLawState (fa 28) (fd 28)
  B__law_state : Binds K (fd 28) ["script"] []
  G__law_state : mg "_law_state" = some (.ref (fa 28))
  F__law_next : Fun K "_law_next" "_law_next" sLawNext (fa 29) (fd 29)
  B__law_next : Binds K (fd 29) ["state", "many"] []
  G__law_next : mg "_law_next" = some (.ref (fa 29))
  F__law_root : Fun K "_law_root" "_law_root" sLawRoot (fa 30) (fd 30)
  B__law_root : Binds K (fd 30) ["n"] []
  G__law_root : mg "_law_root" = some (.ref (fa 30))
  F__law_mul : Fun K "_law_mul" "_law_mul" sLawMul (fa 31) (fd 31)
  B__law_mul : Binds K (fd 31) ["m", "n"] []
  G__law_mul : mg "_law_mul" = some (.ref (fa 31))
  F__law_worth : Fun K "_law_worth" "_law_worth" sLawWorth (fa 32) (fd 32)
  B__law_worth : Binds K (fd 32) ["form", "x", "y"] []
  G__law_worth : mg "_law_worth" = some (.ref (fa 32))
  F__law_act : Fun K "_law_act" "_law_act" sLawAct (fa 33) (fd 33)
  B__law_act : Binds K (fd 33) ["form", "m"] []
  G__law_act : mg "_law_act" = some (.ref (fa 33))
  F__law_change : Fun K "_law_change" "_law_change" sLawChange (fa 34) (fd 34)
  B__law_change : Binds K (fd 34) ["state", "many"] []
  G__law_change : mg "_law_change" = some (.ref (fa 34))
  F__law_split : Fun K "_law_split" "_law_split" sLawSplit (fa 35) (fd 35)
  B__law_split : Binds K (fd 35) ["state"] []
  G__law_split : mg "_law_split" = some (.ref (fa 35))
  F__law_lines : Fun K "_law_lines" "_law_lines" sLawLines (fa 36) (fd 36)
  B__law_lines : Binds K (fd 36) ["form"] []
  G__law_lines : mg "_law_lines" = some (.ref (fa 36))
  F__law_search : Fun K "_law_search" "_law_search" sLawSearch (fa 37) (fd 37)
  B__law_search : Binds K (fd 37) ["form", "n"] []
  G__law_search : mg "_law_search" = some (.ref (fa 37))
  F_law : Fun K "law" "law" sLaw (fa 38) (fd 38)
  B_law : Binds K (fd 38) ["script"] []
  G_law : mg "law" = some (.ref (fa 38))
  g_WITNESSES : mg "WITNESSES" = some (.ref (fa 39))
  S_WITNESSES : ∀ H, SqT K H (fa 39) [.int 2, .int 3, .int 5, .int 7, .int 11, .int 13, .int 17, .int 19, .int 23, .int 29, .int 31, .int 37]
  g_UNIT : mg "UNIT" = some (.ref (fa 40))
  S_UNIT : ∀ H, SqT K H (fa 40) [.int 1, .int 0, .int 0, .int 1]
  m_abs : mg "abs" = none
  m_bool : mg "bool" = none
  m_int : mg "int" = none
  m_isinstance : mg "isinstance" = none
  m_len : mg "len" = none
  m_max : mg "max" = none
  m_range : mg "range" = none
  m_sorted : mg "sorted" = none
  m_tuple : mg "tuple" = none
  g_gcd : mg "gcd" = some (.builtin "math.gcd")
  g_isqrt : mg "isqrt" = some (.builtin "math.isqrt")

/-! ### heaps, draws -/
theorem same_upd {H : Hp} {p : Addr} {o : HO} (h : H p = none) : Same H (upd H p o) := fun b x e => by
  rw [upd_ne (ne_of_none e h)]
  exact e
theorem same_mut {H0 H : Hp} {p : Addr} {o : HO} (s : Same H0 H) (h : H0 p = none) : Same H0 (upd H p o) := fun b x e => by
  rw [upd_ne (ne_of_none e h)]
  exact s _ _ e
theorem same_off {H H' : Hp} {p : Addr} {o : HO} {q : Addr} (f : ∀ b, b ≠ p → H' b = H b) (n : q ≠ p) (h : H q = some o) : H' q = some o := by
  rw [f q n]
  exact h
/-- the state of the draws: the list at p, its numbers at a, at most N draws so far -/
def Dw (H : Hp) (p a : Addr) (N : Nat) : Prop := ∃ (m : Nat) (ns : List Int), m ≤ N ∧ a ≠ p ∧ H p = some (.lst [.ref a, .int (m : Int)]) ∧ H a = some (.lst (ns.map V.int)) ∧ ns.length = 120 ∧ ∀ n ∈ ns, 0 ≤ n ∧ n < 1000
theorem Dw.same {H H' : Hp} {p a : Addr} {N : Nat} (s : Same H H') (d : Dw H p a N) : Dw H' p a N := by
  obtain ⟨m, ns, h1, h2, h3, h4, h5⟩ := d
  exact ⟨m, ns, h1, h2, s _ _ h3, s _ _ h4, h5⟩
theorem Dw.mono {H : Hp} {p a : Addr} {N M : Nat} (d : Dw H p a N) (h : N ≤ M) : Dw H p a M := by
  obtain ⟨m, ns, h1, h2⟩ := d
  exact ⟨m, ns, Nat.le_trans h1 h, h2⟩
theorem Dw.new {H : Hp} {p a q : Addr} {o : HO} {N : Nat} (d : Dw H p a N) (h : H q = none) : Dw (upd H q o) p a N := d.same (same_upd h)
theorem Dw.ne {H : Hp} {p a q : Addr} {N : Nat} (d : Dw H p a N) (h : H q = none) : q ≠ p ∧ q ≠ a := by
  obtain ⟨m, ns, h1, h2, h3, h4, h5⟩ := d
  exact ⟨(ne_of_none h3 h).symm, (ne_of_none h4 h).symm⟩
theorem Dw.mut {H : Hp} {p a q : Addr} {o : HO} {N : Nat} (d : Dw H p a N) (hp : q ≠ p) (ha : q ≠ a) : Dw (upd H q o) p a N := by
  obtain ⟨m, ns, h1, h2, h3, h4, h5⟩ := d
  exact ⟨m, ns, h1, h2, by rw [upd_ne hp.symm]; exact h3, by rw [upd_ne ha.symm]; exact h4, h5⟩
theorem at_mem {α : Type} {xs : List α} {r : Int} (h0 : 0 ≤ r) (h1 : r < xs.length) : ∃ v, v ∈ xs ∧ atI xs r = some v := by
  obtain ⟨j, rfl⟩ := Int.eq_ofNat_of_zero_le h0
  have hj : j < xs.length := by omega
  exact ⟨xs[j], List.getElem_mem hj, atI_nat (List.getElem?_eq_getElem hj)⟩
theorem at_int {ns : List Int} {r : Int} (h0 : 0 ≤ r) (h1 : r < ns.length) : ∃ n ∈ ns, atI (ns.map V.int) r = some (.int n) := by
  obtain ⟨v, hv, e⟩ := at_mem (xs := ns.map V.int) h0 (by rw [List.length_map]; exact h1)
  obtain ⟨n, hn, rfl⟩ := List.mem_map.mp hv
  exact ⟨n, hn, e⟩
theorem pow_ok {i j : Int} (h : 0 ≤ j ∧ j ≤ 1000000 ∧ i.natAbs < 2 ^ 64) : CPow i j := h
theorem wayF {c A B : Prop} [Decidable c] (h : ¬ c) (b : B) : if decide c = true then A else B := by
  rw [if_neg (fun z => h (of_decide_eq_true z))]
  exact b
theorem wayT {c A B : Prop} [Decidable c] (h : c) (a : A) : if decide c = true then A else B := by
  rw [if_pos (decide_eq_true h)]
  exact a
theorem wayNF {c A B : Prop} [Decidable c] (h : c) (b : B) : if (!decide c) = true then A else B := by
  rw [decide_eq_true h]
  exact iteF b
theorem wayNT {c A B : Prop} [Decidable c] (h : ¬ c) (a : A) : if (!decide c) = true then A else B := by
  rw [decide_eq_false h]
  exact iteT a
theorem way2 {c A B : Prop} [Decidable c] (h1 : c → A) (h2 : ¬ c → B) : if decide c = true then A else B := by
  by_cases h : c
  · exact wayT h (h1 h)
  · exact wayF h (h2 h)
theorem wayN2 {c A B : Prop} [Decidable c] (h1 : ¬ c → A) (h2 : c → B) : if (!decide c) = true then A else B := by
  by_cases h : c
  · exact wayNF h (h2 h)
  · exact wayNT h (h1 h)
theorem abs_int (i : Int) : (if i < 0 then -i else i) = (i.natAbs : Int) := by
  split <;> omega
theorem small200 {n : Nat} (h : n ≤ 1000) : n ≤ sizeLine := Nat.le_of_lt (small1000 h)
/-! ### data: == of lists and tuples -/
theorem dp_ints {K : PySem.W.Frag} {H : Hp} : ∀ ns : List Int, DpAll K H (ns.map V.int) (ns.map PyData.int)
  | [] => .nil
  | n :: ns => .cons (.int n) (dp_ints ns)
theorem lay_ints : ∀ ns : List Int, PyData.canLayAll0 (ns.map PyData.int) = true
  | [] => rfl
  | n :: ns => by
    rw [List.map_cons, PyData.canLayAll0, lay_ints ns]
    rfl
theorem depth_ints : ∀ ns : List Int, PyData.depthAll (ns.map PyData.int) = 0
  | [] => rfl
  | n :: ns => by
    rw [List.map_cons, PyData.depthAll, depth_ints ns]
    rfl
theorem shaped_ints (ns : List Int) : SeqAt.shaped (.list (ns.map PyData.int)) = true := by
  show (PyData.canLay0 (.list (ns.map PyData.int)) && decide (PyData.depth (.list (ns.map PyData.int)) ≤ 64)) = true
  rw [Bool.and_eq_true]
  refine ⟨by rw [PyData.canLay0]; exact lay_ints ns, decide_eq_true ?_⟩
  rw [PyData.depth, depth_ints]
  decide
theorem shaped_intsT (ns : List Int) : SeqAt.shaped (.tuple (ns.map PyData.int)) = true := by
  show (PyData.canLay0 (.tuple (ns.map PyData.int)) && decide (PyData.depth (.tuple (ns.map PyData.int)) ≤ 64)) = true
  rw [Bool.and_eq_true]
  refine ⟨by rw [PyData.canLay0]; exact lay_ints ns, decide_eq_true ?_⟩
  rw [PyData.depth, depth_ints]
  decide
theorem eqD_same {K : PySem.W.Frag} {H : Hp} {x y : V} {Q : VK} {d : PyData} (hx : Dp K H x d) (hy : Dp K H y d) (sh : SeqAt.shaped d = true) (q : Q (.bl true) H) : rEqD K x y H Q :=
  ⟨d, d, hx, hy, sh, sh, by rw [SeqAt.eqv_refl d (SeqAt.canLay_of_shaped sh)]; exact q⟩
theorem neD_same {K : PySem.W.Frag} {H : Hp} {x y : V} {Q : VK} {d : PyData} (hx : Dp K H x d) (hy : Dp K H y d) (sh : SeqAt.shaped d = true) (q : Q (.bl false) H) : rNeD K x y H Q :=
  ⟨d, d, hx, hy, sh, sh, by rw [SeqAt.eqv_refl d (SeqAt.canLay_of_shaped sh)]; exact q⟩
/-! ### slices -/
theorem cut_to (ns : List Int) (k : Nat) : cutV (ns.map V.int) none (some (k : Int)) = (ns.take k).map V.int := by
  unfold cutV
  rw [HT.sIx_none, HT.sIx_nat, List.drop_zero, List.map_take, Nat.sub_zero, List.length_map]
  by_cases h : k ≤ ns.length
  · rw [Nat.min_eq_left h]
  · rw [Nat.min_eq_right (by omega), List.take_of_length_le (by rw [List.length_map]; omega), List.take_of_length_le (by rw [List.length_map]; omega)]
theorem cut_from (xs : List V) (k : Nat) : cutV xs (some (k : Int)) none = xs.drop k := by
  unfold cutV
  rw [HT.sIx_none, HT.sIx_nat]
  by_cases h : k ≤ xs.length
  · rw [Nat.min_eq_left h, List.take_of_length_le (by rw [List.length_drop]; omega)]
  · rw [Nat.min_eq_right (by omega), List.drop_of_length_le (by omega), List.drop_of_length_le (by omega)]
    exact List.take_nil
theorem isiF {K : PySem.W.Frag} {H : Hp} {i : Int} {Q : VK} (q : Q (.bl false) H) : rIsi K [.int i, .ty "bool"] H Q := ⟨_, _, _, _, false, rfl, ClsV.ty _, TyX.base (.int i), kit_ty (by decide +kernel), q⟩
theorem isiT {K : PySem.W.Frag} {H : Hp} {b : Bool} {Q : VK} (q : Q (.bl true) H) : rIsi K [.bl b, .ty "bool"] H Q := ⟨_, _, _, _, true, rfl, ClsV.ty _, TyX.base (.bl b), kit_ty (by decide +kernel), q⟩
theorem isiTup {K : PySem.W.Frag} {H : Hp} {a : Addr} {xs : List V} {Q : VK} (h : H a = some (.tup xs)) (q : Q (.bl true) H) : rIsi K [.ref a, .ty "tuple"] H Q := ⟨_, _, _, _, true, rfl, ClsV.ty _, TyX.base (.tup h), kit_ty (by decide +kernel), q⟩
theorem isiLst {K : PySem.W.Frag} {H : Hp} {a : Addr} {xs : List V} {Q : VK} (h : H a = some (.lst xs)) (q : Q (.bl true) H) : rIsi K [.ref a, .ty "list"] H Q := ⟨_, _, _, _, true, rfl, ClsV.ty _, TyX.base (.lst h), kit_ty (by decide +kernel), q⟩
/-! ### rules with the written part named -/
section
variable {X : Cx}
def rLenQ (K : PySem.W.Frag) : List V → Hp → VK → Prop := fun xs H Q => ∃ p ys, xs = [.ref p] ∧ (SqL K H p ys ∨ SqT K H p ys) ∧ Q (.int ys.length) H
def rListQ (K : PySem.W.Frag) : List V → Hp → VK → Prop := fun xs H Q => ∃ p ys, xs = [.ref p] ∧ (SqL K H p ys ∨ SqT K H p ys) ∧ ∀ l, H l = none → Q (.ref l) (upd H l (.lst ys))
def rTupQ (K : PySem.W.Frag) : List V → Hp → VK → Prop := fun xs H Q => ∃ p ys, xs = [.ref p] ∧ ((SqL K H p ys ∧ ∀ l, H l = none → Q (.ref l) (upd H l (.tup ys))) ∨ (SqT K H p ys ∧ Q (.ref p) H))
theorem ixL (K : PySem.W.Frag) (h : X.K = K := by rfl) : IxR X (rIxL K) := by subst h; exact ix_list
theorem ixT (K : PySem.W.Frag) (h : X.K = K := by rfl) : IxR X (rIxT K) := by subst h; exact ix_tup
theorem slL (K : PySem.W.Frag) (h : X.K = K := by rfl) : SlR X (rSlL K) := by subst h; exact sl_list
theorem slT (K : PySem.W.Frag) (h : X.K = K := by rfl) : SlR X (rSlT K) := by subst h; exact sl_tup
theorem lenQ (K : PySem.W.Frag) (h : X.K = K := by rfl) : CallR X (.builtin "len") (rLenQ K) := by subst h; exact call_len_seq
theorem listQ (K : PySem.W.Frag) (h : X.K = K := by rfl) : CallR X (.type "list") (rListQ K) := by subst h; exact call_list_of
theorem tupQ (K : PySem.W.Frag) (h : X.K = K := by rfl) : CallR X (.type "tuple") (rTupQ K) := by subst h; exact call_tuple_of
theorem isiQ (K : PySem.W.Frag) (h : X.K = K := by rfl) : CallR X (.builtin "isinstance") (rIsi K) := by subst h; exact call_isi
theorem eqDQ (K : PySem.W.Frag) (hu : X.A.units + 64 < cLine) (h : X.K = K := by rfl) : OpR X (compareOp .Eq) (rEqD K) := by subst h; exact op_eqD hu
theorem neDQ (K : PySem.W.Frag) (hu : X.A.units + 64 < cLine) (h : X.K = K := by rfl) : OpR X (compareOp .NotEq) (rNeD K) := by subst h; exact op_neD hu
theorem piL (K : PySem.W.Frag) {tg l : Expr} {tl : TE} (hl : PE X l tl) (h : X.K = K := by rfl) : PI X tg l (iList K tl) := by subst h; exact pi_list hl
theorem piT (K : PySem.W.Frag) {tg l : Expr} {tl : TE} (hl : PE X l tl) (h : X.K = K := by rfl) : PI X tg l (iTup K tl) := by subst h; exact pi_tup hl
theorem inQ (K : PySem.W.Frag) (h : X.K = K := by rfl) : OpR X (compareOp .In) (rIn K false) := by subst h; exact op_in_seq
theorem notInQ (K : PySem.W.Frag) (h : X.K = K := by rfl) : OpR X (compareOp .NotIn) (rIn K true) := by subst h; exact op_notIn_seq
end
/-! ### great numbers -/
section
variable {X : Cx}
/-- // by any divisor below 2 ^ 9000 -/
def CDivX (_ j : Int) : Prop := j ≠ 0 ∧ j.natAbs < 2 ^ 9000
theorem op_fdivX : OpR X (binaryOp .FloorDiv) (rI CDivX fun i j => .int (i.fdiv j)) := opI fun i j _ _ _ _ _ hc q =>
  floordiv_int hc.1 q (.inl (PyProof.noPylong_of_log2 (PySem.Flt.log2_lt_of (by decide) hc.2)))
end
theorem pow_up {n a b : Nat} (h : n < 2 ^ a) (hab : a ≤ b) : n < 2 ^ b := Nat.lt_of_lt_of_le h (Nat.pow_le_pow_right (by decide) hab)

/-! ### bounds by powers of two -/
def Bd (n : Nat) (x : Int) : Prop := x.natAbs < 2 ^ n
theorem Bd.mono {n m : Nat} {x : Int} (h : Bd n x) (l : n ≤ m) : Bd m x := Nat.lt_of_lt_of_le h (Nat.pow_le_pow_right (by decide) l)
theorem Bd.mul {n m : Nat} {x y : Int} (h1 : Bd n x) (h2 : Bd m y) : Bd (n + m) (x * y) := wide_lt h1 h2
theorem Bd.add {n m : Nat} {x y : Int} (h1 : Bd n x) (h2 : Bd m y) : Bd (max n m + 1) (x + y) := by
  have a1 := h1.mono (Nat.le_max_left n m)
  have a2 := h2.mono (Nat.le_max_right n m)
  unfold Bd at *
  rw [Nat.pow_succ]
  omega
theorem Bd.neg {n : Nat} {x : Int} (h : Bd n x) : Bd n (-x) := by
  unfold Bd at *
  rw [Int.natAbs_neg]
  exact h
theorem Bd.sub {n m : Nat} {x y : Int} (h1 : Bd n x) (h2 : Bd m y) : Bd (max n m + 1) (x - y) := by
  have h := h1.add h2.neg
  rw [← Int.sub_eq_add_neg] at h
  exact h
theorem Bd.l8 {x : Int} (h : (x.natAbs < 2 ^ 8) = True) : Bd 8 x := of_eq_true h
theorem Bd.lit {x : Int} (h : (x.natAbs < 2 ^ 64) = True) : Bd 64 x := of_eq_true h
theorem Bd.om {x : Int} (h : x.natAbs < 1152921504606846976) : Bd 60 x := h
theorem Bd.fdiv {n : Nat} {x y : Int} (h : Bd n x) : Bd n (x.fdiv y) := by
  unfold Bd at *
  exact Nat.lt_of_le_of_lt (Int.natAbs_fdiv_le_natAbs x y) h
theorem Bd.mod {n : Nat} {x y : Int} (h : Bd n y) (hy : y ≠ 0) : Bd n (x % y) := by
  unfold Bd at *
  have h0 := Int.emod_nonneg x hy
  have h1 := Int.emod_lt x hy
  omega
theorem Bd.abs {n : Nat} {x : Int} (h : Bd n x) : Bd n (x.natAbs : Int) := by
  unfold Bd at *
  rw [Int.natAbs_natCast]
  exact h
theorem Bd.div {n : Nat} {x y : Int} (h : Bd n x) : Bd n (x / y) := by
  unfold Bd at *
  exact Nat.lt_of_le_of_lt (Int.natAbs_ediv_le_natAbs x y) h
theorem bdm {n m : Nat} {x : Int} (h : Bd n x) (l : Nat.ble n m = true) : Bd m x := h.mono (Nat.le_of_ble_eq_true l)
theorem Bd.of {n : Nat} {x : Int} {m : Nat} (h : x.natAbs ≤ m) (l : m < 2 ^ n) : Bd n x := Nat.lt_of_le_of_lt h l
theorem Bd.mulW {n m : Nat} {x y : Int} (h1 : Bd n x) (h2 : Bd m y) (l : n + m ≤ 900000) : CMulW x y :=
  wide_mul (a := n + 1) (b := m + 1) (h1.mono (Nat.le_succ n)) (h2.mono (Nat.le_succ m)) (Nat.succ_pos n) (Nat.succ_pos m) (by omega)
theorem Bd.x4 {n m : Nat} {x y : Int} (h1 : Bd n x) (l : n ≤ m) (h : y = x) : Bd m y := h ▸ h1.mono l
/-! ### heaps -/
theorem same_seqT {K : PySem.W.Frag} {H H' : Hp} {a : Addr} {xs : List V} (e : Same H H') (h : SqT K H a xs) : SqT K H' a xs := by
  rcases h with (h | ⟨o, h⟩) | h
  · exact .inl (.inl (e _ _ h))
  · exact .inl (.inr ⟨o, e _ _ h⟩)
  · exact .inr h
/-- tuples stay -/
def KT (K : PySem.W.Frag) (H H' : Hp) : Prop := ∀ a xs, SqT K H a xs → SqT K H' a xs
/-- all but p stays -/
def Frm (p : Addr) (H H' : Hp) : Prop := ∀ b, b ≠ p → H' b = H b
/-- all that was tracked, but p, stays -/
def Kp (p : Addr) (H H' : Hp) : Prop := ∀ b o, b ≠ p → H b = some o → H' b = some o
theorem same_kt {K : PySem.W.Frag} {H H' : Hp} (e : Same H H') : KT K H H' := fun _ _ h => same_seqT e h
theorem same_kp {p : Addr} {H H' : Hp} (e : Same H H') : Kp p H H' := fun b o _ h => e b o h
theorem frm_kp {p : Addr} {H H' : Hp} (f : Frm p H H') : Kp p H H' := fun b o n h => (f b n).trans h
theorem Kp.refl {p : Addr} {H : Hp} : Kp p H H := fun b o _ h => h
theorem Kp.trans {p : Addr} {H H1 H2 : Hp} (a : Kp p H H1) (b : Kp p H1 H2) : Kp p H H2 := fun c o n h => b c o n (a c o n h)
theorem KT.trans {K : PySem.W.Frag} {H H1 H2 : Hp} (a : KT K H H1) (b : KT K H1 H2) : KT K H H2 := fun c xs h => b c xs (a c xs h)
theorem KT.refl {K : PySem.W.Frag} {H : Hp} : KT K H H := fun _ _ h => h
theorem kpB {p : Addr} {H H1 H' : Hp} (e : Kp p H1 H') (s : Kp p H H1) : Kp p H H' := s.trans e
theorem sameB {H H1 H' : Hp} (e : Same H1 H') (s : Same H H1) : Same H H' := s.trans e
theorem same_at {H H' : Hp} {a : Addr} {o : HO} (e : Same H H') (h : H a = some o) : H' a = some o := e _ _ h
theorem kp_at {p : Addr} {H H' : Hp} {a : Addr} {o : HO} (e : Kp p H H') (n : a ≠ p) (h : H a = some o) : H' a = some o := e _ _ n h
theorem KT.use {K : PySem.W.Frag} {H H' : Hp} {a : Addr} {xs : List V} (e : KT K H H') (h : SqT K H a xs) : SqT K H' a xs := e a xs h
theorem Kp.kt {K : PySem.W.Frag} {H H' : Hp} {p a : Addr} {N : Nat} (f : Kp p H H') (d : Dw H p a N) : KT K H H' := fun c xs h => by
  obtain ⟨m, ns, h1, h2, h3, h4⟩ := d
  rcases h with (h | ⟨o, h⟩) | h
  · refine .inl (.inl (f c _ ?_ h))
    rintro rfl
    rw [h3] at h
    cases h
  · refine .inl (.inr ⟨o, f c _ ?_ h⟩)
    rintro rfl
    rw [h3] at h
    cases h
  · exact .inr h
theorem kp_seqT {K : PySem.W.Frag} {H H' : Hp} {p a b : Addr} {N : Nat} {xs : List V} (f : Kp p H H') (d : Dw H p a N) (h : SqT K H b xs) : SqT K H' b xs := f.kt d b xs h
theorem Kp.seqL {K : PySem.W.Frag} {p : Addr} {H H' : Hp} {a : Addr} {xs : List V} (f : Kp p H H') (n : a ≠ p) (h : SqL K H a xs) : SqL K H' a xs := by
  rcases h with (h | ⟨o, h⟩) | h
  · exact .inl (.inl (f _ _ n h))
  · exact .inl (.inr ⟨o, f _ _ n h⟩)
  · exact .inr h
theorem Dw.kp0 {H : Hp} {p a q : Addr} {o : HO} (h : H q = none) : Kp p H (upd H q o) := same_kp (same_upd h)
theorem fresh_ne {H : Hp} {o p a : Addr} {N : Nat} (h : H o = none) (d : Dw H p a N) : o ≠ p := (d.ne h).1
section
variable {X : Cx}
def rAbs (_ : PySem.W.Frag) : List V → Hp → VK → Prop := fun xs H Q => ∃ i : Int, xs = [.int i] ∧ Q (.int (i.natAbs : Int)) H
def rInt (_ : PySem.W.Frag) : List V → Hp → VK → Prop := fun xs H Q => (∃ i : Int, xs = [.int i] ∧ Q (.int i) H) ∨ ∃ k : Bool, xs = [.bl k] ∧ Q (.int (if k then 1 else 0)) H
theorem absQ (K : PySem.W.Frag) : CallR X (.builtin "abs") (rAbs K) := by
  intro pins s σ H xs us Q I r h
  obtain ⟨i, e, q⟩ := h
  exact call_abs pins s σ H xs us Q I r ⟨i, e, by rw [abs_int]; exact q⟩
theorem intQ (K : PySem.W.Frag) : CallR X (.type "int") (rInt K) := call_int1
theorem minQ (K : PySem.W.Frag) (hc : X.calm = true := by rfl) (h : X.K = K := by rfl) : CallR X (.builtin "min") (rMin K) := by
  subst h
  exact cr_min hc
theorem pgT (K : PySem.W.Frag) (n : Nat) {es : List Expr} {k : Nat} {pos : Pos} {t : TGs} (hc : X.calm = true) (h : PGs X es t) (hn : (assignEach es X.env).length = n := by rfl) (hst : (assignEach es X.env).findIdx? (·.1) = none := by rfl) (hK : X.K = K := by rfl) : PG X (.Tuple es k pos) (gTup K n t) := by
  subst hK
  exact pg_tup hc h hn hst
end
namespace R
section
variable {K : PySem.W.Frag} {σ : L2.St} {H : Hp} {Q : VK} {ta tb te : TE} {v x y : V} {i j : Int}
theorem var {n : Nat} (h : σ[n]? = some (some v)) (q : Q v H) : tVar n σ H Q := ⟨v, h, q⟩
theorem con (q : Q v H) : tC v σ H Q := q
theorem op {r : R2} (h : ta σ H fun x H1 => tb σ H1 fun y H2 => r x y H2 Q) : tOp r ta tb σ H Q := h
theorem un {r : V → Hp → VK → Prop} (h : ta σ H fun x H1 => r x H1 Q) : tUn r ta σ H Q := h
theorem i0 {g : Int → Int → V} (q : Q (g i j) H) : rI0 g (.int i) (.int j) H Q := ⟨i, j, rfl, rfl, q⟩
theorem i2 {C : Int → Int → Prop} {g : Int → Int → V} (c : C i j) (q : Q (g i j) H) : rI C g (.int i) (.int j) H Q := ⟨i, j, rfl, rfl, c, q⟩
theorem u1 {g : Int → V} (q : Q (g i) H) : rU g (.int i) H Q := ⟨i, rfl, q⟩
theorem ixT {p : Addr} {xs : List V} (h : SqT K H p xs) (e : atI xs i = some v) (q : Q v H) : rIxT K (.ref p) (.int i) H Q := ⟨p, xs, i, v, rfl, rfl, h, e, q⟩
theorem ixL {p : Addr} {xs : List V} (h : SqL K H p xs) (e : atI xs i = some v) (q : Q v H) : rIxL K (.ref p) (.int i) H Q := ⟨p, xs, i, v, rfl, rfl, h, e, q⟩
theorem nil {Q : List V → Hp → Prop} (q : Q [] H) : tNil σ H Q := q
theorem cons {tr : TA} {Q : List V → Hp → Prop} (h : ta σ H fun x H1 => tr σ H1 fun xs H2 => Q (x :: xs) H2) : tCons ta tr σ H Q := h
/-- what is wanted of a new tuple, a new list -/
def NwT (H : Hp) (xs : List V) (Q : VK) : Prop := xs.length ≤ sizeLine ∧ ∀ p, H p = none → Q (.ref p) (upd H p (.tup xs))
def NwL (H : Hp) (xs : List V) (Q : VK) : Prop := xs.length ≤ sizeLine ∧ ∀ p, H p = none → Q (.ref p) (upd H p (.lst xs))
def Nw (H : Hp) (xs : List V) (Q : VK) : Prop := ∀ H' t, Same H H' → H' t = some (.tup xs) → Q (.ref t) H'
theorem nw {xs : List V} (h : ∀ H' t, Same H H' → H' t = some (.tup xs) → Q (.ref t) H') : Nw H xs Q := h
def Mt (H : Hp) (xs : List V) (Q : VK) : Prop := ∀ H' p, Same H H' → H p = none → H' p = some (.tup xs) → Q (.ref p) H'
def Ml (H : Hp) (xs : List V) (Q : VK) : Prop := ∀ H' p, Same H H' → H p = none → H' p = some (.lst xs) → Q (.ref p) H'
theorem mt {xs : List V} (h : ∀ H' p, Same H H' → H p = none → H' p = some (.tup xs) → Q (.ref p) H') : Mt H xs Q := h
theorem ml {xs : List V} (h : ∀ H' p, Same H H' → H p = none → H' p = some (.lst xs) → Q (.ref p) H') : Ml H xs Q := h
theorem tup {t : TA} (h : t σ H fun xs H1 => NwT H1 xs Q) : tTup t σ H Q := h
theorem lst {t : TA} (h : t σ H fun xs H1 => NwL H1 xs Q) : tLst t σ H Q := h
theorem nwT {xs : List V} (l : Nat.ble xs.length 1000 = true) (q : Mt H xs Q) : NwT H xs Q :=
  ⟨Nat.le_of_lt (small1000 (Nat.le_of_ble_eq_true l)), fun p n => q _ p (same_upd n) n upd_same⟩
theorem nwL {xs : List V} (l : Nat.ble xs.length 1000 = true) (q : Ml H xs Q) : NwL H xs Q :=
  ⟨Nat.le_of_lt (small1000 (Nat.le_of_ble_eq_true l)), fun p n => q _ p (same_upd n) n upd_same⟩
theorem call {sp : Sp} {dvs : List V} {E : XK} {t : TA} (h : t σ H fun vs H1 => sp (vs ++ dvs) H1 Q E) : tCall sp dvs E t σ H Q := h
theorem callB {r : List V → Hp → VK → Prop} {t : TA} (h : t σ H fun vs H1 => r vs H1 Q) : tCB r t σ H Q := h
theorem gname {n : Nat} {Q : L2.St → Hp → Prop} (h : Q (σ.set n (some v)) H) : gName n v σ H Q := h
theorem gtup {n : Nat} {t : TGs} {a : Addr} {xs : List V} {Q : L2.St → Hp → Prop} (h1 : SqT K H a xs) (h2 : xs.length = n) (h : t xs σ H Q) : gTup K n t (.ref a) σ H Q := ⟨a, xs, rfl, h1, h2, h⟩
theorem gcons {t : TG} {u : TGs} {r : List V} {Q : L2.St → Hp → Prop} (h : t v σ H fun σ' H' => u r σ' H' Q) : gCons t u (v :: r) σ H Q := ⟨v, r, rfl, h⟩
theorem gnil {Q : L2.St → Hp → Prop} (h : Q σ H) : gNil [] σ H Q := ⟨rfl, h⟩
variable {nx : L2.St → Hp → Prop} {rt : VK} {bk ct : L2.St → Hp → Prop} {t u : TS} {c : TT}
theorem seq (h : t (Ends.mk (u (Ends.mk nx rt bk ct)) rt bk ct) σ H) : tSeq t u (Ends.mk nx rt bk ct) σ H := h
theorem asg {g : TG} (h : te σ H fun x H1 => g x σ H1 nx) : tAsg te g (Ends.mk nx rt bk ct) σ H := h
theorem brk (h : bk σ H) : tBreak (Ends.mk nx rt bk ct) σ H := h
theorem cont (h : ct σ H) : tCont (Ends.mk nx rt bk ct) σ H := h
theorem ret (h : te σ H rt) : tRet te (Ends.mk nx rt bk ct) σ H := h
theorem next (h : nx σ H) : tNext (Ends.mk nx rt bk ct) σ H := h
theorem drop (h : te σ H fun _ H1 => nx σ H1) : tDrop te (Ends.mk nx rt bk ct) σ H := h
theorem par {i j : Nat} {ta : TA} (h : ta σ H fun vs H1 => ∃ v w, vs = [v, w] ∧ nx ((σ.set i (some v)).set j (some w)) H1) : tPar i j ta (Ends.mk nx rt bk ct) σ H := h
theorem par2 {P : V → V → Prop} (h : P x y) : ∃ v w, [x, y] = [v, w] ∧ P v w := ⟨x, y, rfl, h⟩
theorem ifs (h : c σ H fun b H1 => if b = true then t (Ends.mk nx rt bk ct) σ H1 else u (Ends.mk nx rt bk ct) σ H1) : tIfS c t u (Ends.mk nx rt bk ct) σ H := h
theorem tif (h : c σ H fun b H1 => if b = true then ta σ H1 Q else tb σ H1 Q) : tIf c ta tb σ H Q := h
theorem test {Q : Bool → Hp → Prop} (h : te σ H fun x H' => ∃ k, x = .bl k ∧ Q k H') : tTest te σ H Q := h
theorem tb' {Q : Bool → Hp → Prop} (h : te σ H fun x H' => ∃ k, x = .bl k ∧ Q k H') : tB te σ H Q := h
theorem isbl {b : Bool} {P : Bool → Prop} (h : P b) : ∃ k, V.bl b = .bl k ∧ P k := ⟨b, rfl, h⟩
theorem cmp {p : Int → Int → Bool} (h : t2I ta tb (fun i j H2 => Q (.bl (p i j)) H2) σ H) : tCmp p ta tb σ H Q := h
theorem t2i {k : Int → Int → Hp → Prop} (h : ta σ H fun x H1 => tb σ H1 fun y H2 => ∃ i j, x = .int i ∧ y = .int j ∧ k i j H2) : t2I ta tb k σ H := h
theorem intp {k : Int → Int → Prop} (h : k i j) : ∃ a b : Int, V.int i = .int a ∧ V.int j = .int b ∧ k a b := ⟨i, j, rfl, rfl, h⟩
theorem cut {Mid : L2.St → Hp → Prop} (h1 : t (Ends.mk Mid rt bk ct) σ H) (h2 : ∀ σ' H', Mid σ' H' → u (Ends.mk nx rt bk ct) σ' H') : C8.tCut t u (Ends.mk nx rt bk ct) σ H := ⟨Mid, h1, h2⟩
variable {d : TT}
theorem and {Q : Bool → Hp → Prop} (h : c σ H fun k H1 => if k = true then d σ H1 Q else Q false H1) : tAnd c d σ H Q := h
theorem or {Q : Bool → Hp → Prop} (h : c σ H fun k H1 => if k = true then Q true H1 else d σ H1 Q) : tOr c d σ H Q := h
theorem not {Q : Bool → Hp → Prop} (h : c σ H fun k H1 => Q (!k) H1) : tNot c σ H Q := h
theorem andV (h : ta σ H fun x H1 => ∃ c, x = .bl c ∧ if c = true then tb σ H1 Q else Q (.bl false) H1) : tAndV ta tb σ H Q := h
theorem orV (h : ta σ H fun x H1 => ∃ c, x = .bl c ∧ if c = true then Q (.bl true) H1 else tb σ H1 Q) : tOrV ta tb σ H Q := h
theorem notV (h : ta σ H fun x H1 => ∃ c, x = .bl c ∧ Q (.bl (!c)) H1) : tNotV ta σ H Q := h
theorem chain {r r' : R2} {tc : TE} (h : ta σ H fun x H1 => tb σ H1 fun y H2 => r x y H2 fun z H3 => ∃ k, z = .bl k ∧ (if k = true then tc σ H3 fun w' H4 => r' y w' H4 Q else Q (.bl false) H3)) : tChain r r' ta tb tc σ H Q := h
theorem tupL {p : Addr} {ys : List V} (h : SqL K H p ys) (q : Mt H ys Q) : rTupQ K [.ref p] H Q := ⟨p, ys, rfl, .inl ⟨h, fun l n => q _ l (same_upd n) n upd_same⟩⟩
theorem lstL {p : Addr} {ys : List V} (h : SqL K H p ys) (q : Ml H ys Q) : rListQ K [.ref p] H Q := ⟨p, ys, rfl, .inl h, fun l n => q _ l (same_upd n) n upd_same⟩
theorem cat {l b : Addr} {xs zs : List V} (h1 : H l = some (.lst xs)) (h2 : H b = some (.lst zs)) (z : Nat.ble (xs.length + zs.length) 1000 = true) (q : Ml H (xs ++ zs) Q) : rCat (.ref l) (.ref b) H Q :=
  ⟨l, b, xs, zs, rfl, rfl, h1, h2, Nat.le_of_lt (small1000 (Nat.le_of_ble_eq_true z)), fun p n => q _ p (same_upd n) n upd_same⟩
theorem sl {r : V → Option Int → Option Int → Hp → VK → Prop} {tl th : TO} (h : te σ H fun x H1 => tl σ H1 fun l H2 => th σ H2 fun u H3 => r x l u H3 Q) : tSl r te tl th σ H Q := h
theorem noPart {Q : Option Int → Hp → Prop} (h : Q none H) : tNoPart σ H Q := h
theorem part {Q : Option Int → Hp → Prop} (h : te σ H fun x H1 => ∃ i, x = .int i ∧ Q (some i) H1) : tPart te σ H Q := h
theorem isInt {P : Int → Prop} (h : P i) : ∃ k, V.int i = .int k ∧ P k := ⟨i, rfl, h⟩
theorem slL {a : Addr} {xs : List V} {lo hi : Option Int} (h : SqL K H a xs) (q : Ml H (cutV xs lo hi) Q) : rSlL K (.ref a) lo hi H Q := ⟨a, xs, rfl, h, fun p n => q _ p (same_upd n) n upd_same⟩
theorem absI (q : Q (.int (i.natAbs : Int)) H) : rAbs K [.int i] H Q := ⟨i, rfl, q⟩
theorem intI (q : Q (.int i) H) : rInt K [.int i] H Q := .inl ⟨i, rfl, q⟩
theorem intB {b : Bool} (q : Q (.int (if b then 1 else 0)) H) : rInt K [.bl b] H Q := .inr ⟨b, rfl, q⟩
theorem lenT {p : Addr} {ys : List V} (h : SqT K H p ys) (q : Q (.int (ys.length : Int)) H) : rLenQ K [.ref p] H Q := ⟨p, ys, rfl, .inr h, q⟩
theorem lenL {p : Addr} {ys : List V} (h : SqL K H p ys) (q : Q (.int (ys.length : Int)) H) : rLenQ K [.ref p] H Q := ⟨p, ys, rfl, .inl h, q⟩
theorem eqS {a b : Str} (q : Q (.bl (decide (V.str a = V.str b))) H) : rEq (.str a) (.str b) H Q := ⟨rfl, q⟩
theorem eqBl {a b : Bool} (q : Q (.bl (decide (V.bl a = V.bl b))) H) : rEq (.bl a) (.bl b) H Q := ⟨rfl, q⟩
theorem neBl {a b : Bool} (q : Q (.bl (!decide (V.bl a = V.bl b))) H) : rNe (.bl a) (.bl b) H Q := ⟨rfl, q⟩
theorem isiTupS {a : Addr} {xs : List V} (h : SqT K H a xs) (q : Q (.bl true) H) : rIsi K [.ref a, .ty "tuple"] H Q := by
  rcases h with (h | ⟨o, h⟩) | ⟨o, its, n, h1, h2, _⟩
  · exact Wc.isiTup h q
  · exact ⟨_, _, _, _, true, rfl, ClsV.ty _, TyX.fTuple h, kit_ty (by decide +kernel), q⟩
  · exact ⟨_, _, _, _, true, rfl, ClsV.ty _, TyX.kTuple h1 h2, kit_ty (by decide +kernel), q⟩
theorem slT {a : Addr} {xs : List V} {lo hi : Option Int} (h : SqT K H a xs) (n : ¬ (HT.sIx xs.length 0 lo = 0 ∧ HT.sIx xs.length xs.length hi = xs.length)) (q : Mt H (cutV xs lo hi) Q) : rSlT K (.ref a) lo hi H Q := ⟨a, xs, rfl, h, n, fun p nn => q _ p (same_upd nn) nn upd_same⟩
theorem isiT {b : Bool} (q : Q (.bl true) H) : rIsi K [.bl b, .ty "bool"] H Q := Wc.isiT q
theorem isiTup {a : Addr} {xs : List V} (h : H a = some (.tup xs)) (q : Q (.bl true) H) : rIsi K [.ref a, .ty "tuple"] H Q := Wc.isiTup h q
theorem isiLst {a : Addr} {xs : List V} (h : H a = some (.lst xs)) (q : Q (.bl true) H) : rIsi K [.ref a, .ty "list"] H Q := Wc.isiLst h q
/-! == of tuples of ints -/
theorem eqB {ns ms : List Int} : PyData.eqv (.tuple (ns.map PyData.int)) (.tuple (ms.map PyData.int)) = decide (ns = ms) := by
  have h : ∀ ns ms : List Int, PyData.eqvAll (ns.map PyData.int) (ms.map PyData.int) = decide (ns = ms) := by
    intro ns
    induction ns with
    | nil => intro ms; cases ms <;> simp [PyData.eqvAll]
    | cons n ns ih => intro ms; cases ms with
      | nil => simp [PyData.eqvAll]
      | cons m ms =>
        rw [List.map_cons, List.map_cons, PyData.eqvAll, ih]
        by_cases h : n = m
        · simp [PyData.eqv, h]
        · simp [PyData.eqv, h]
  rw [PyData.eqv]
  exact h ns ms
theorem eqTs {p q : Addr} {ns ms : List Int} {b : Bool} (h1 : SqT K H p (ns.map V.int)) (h2 : SqT K H q (ms.map V.int)) (hb : b = decide (ns = ms)) (h : Q (.bl b) H) : rEqD K (.ref p) (.ref q) H Q :=
  ⟨_, _, .tup h1 (dp_ints ns), .tup h2 (dp_ints ms), shaped_intsT ns, shaped_intsT ms, by rw [eqB, ← hb]; exact h⟩
theorem neTs {p q : Addr} {ns ms : List Int} {b : Bool} (h1 : SqT K H p (ns.map V.int)) (h2 : SqT K H q (ms.map V.int)) (hb : b = decide (ns = ms)) (h : Q (.bl (!b)) H) : rNeD K (.ref p) (.ref q) H Q :=
  ⟨_, _, .tup h1 (dp_ints ns), .tup h2 (dp_ints ms), shaped_intsT ns, shaped_intsT ms, by rw [eqB, ← hb]; exact h⟩
variable {p q : Addr} {a b c d a' b' c' d' : Int}
theorem eq2 (h1 : SqT K H p [.int a, .int b]) (h2 : SqT K H q [.int a', .int b']) (h : Q (.bl (decide (a = a' ∧ b = b'))) H) : rEqD K (.ref p) (.ref q) H Q :=
  eqTs (ns := [a, b]) (ms := [a', b']) h1 h2 (by simp) h
theorem ne2 (h1 : SqT K H p [.int a, .int b]) (h2 : SqT K H q [.int a', .int b']) (h : Q (.bl (!decide (a = a' ∧ b = b'))) H) : rNeD K (.ref p) (.ref q) H Q :=
  neTs (ns := [a, b]) (ms := [a', b']) h1 h2 (by simp) h
theorem eq3 (h1 : SqT K H p [.int a, .int b, .int c]) (h2 : SqT K H q [.int a', .int b', .int c']) (h : Q (.bl (decide (a = a' ∧ b = b' ∧ c = c'))) H) : rEqD K (.ref p) (.ref q) H Q :=
  eqTs (ns := [a, b, c]) (ms := [a', b', c']) h1 h2 (by simp) h
theorem ne3 (h1 : SqT K H p [.int a, .int b, .int c]) (h2 : SqT K H q [.int a', .int b', .int c']) (h : Q (.bl (!decide (a = a' ∧ b = b' ∧ c = c'))) H) : rNeD K (.ref p) (.ref q) H Q :=
  neTs (ns := [a, b, c]) (ms := [a', b', c']) h1 h2 (by simp) h
theorem eq4 (h1 : SqT K H p [.int a, .int b, .int c, .int d]) (h2 : SqT K H q [.int a', .int b', .int c', .int d']) (h : Q (.bl (decide (a = a' ∧ b = b' ∧ c = c' ∧ d = d'))) H) : rEqD K (.ref p) (.ref q) H Q :=
  eqTs (ns := [a, b, c, d]) (ms := [a', b', c', d']) h1 h2 (by simp) h
theorem ne4 (h1 : SqT K H p [.int a, .int b, .int c, .int d]) (h2 : SqT K H q [.int a', .int b', .int c', .int d']) (h : Q (.bl (!decide (a = a' ∧ b = b' ∧ c = c' ∧ d = d'))) H) : rNeD K (.ref p) (.ref q) H Q :=
  neTs (ns := [a, b, c, d]) (ms := [a', b', c', d']) h1 h2 (by simp) h
/-! loops over ranges, comprehensions -/
def ForJ (J : It) (g : TG) (tb : TS) (D : Ends) (σ : L2.St) (H1 : Hp) : Prop := tFor (fun _ Hs R => R J Hs) g tb D σ H1
theorem forE {wi : TI} {g : TG} {tb : TS} {D : Ends} (h : wi σ H fun J H1 => ForJ J g tb D σ H1) : tFor wi g tb D σ H := h
def RgOne (vs : List V) (P : Int → Prop) : Prop := ∃ j : Int, vs = [.int j] ∧ -(2 ^ 62) ≤ j ∧ j < 2 ^ 62 ∧ P j
def RgTwo (vs : List V) (P : Int → Int → Prop) : Prop := ∃ i j : Int, vs = [.int i, .int j] ∧ (-(2 ^ 62) ≤ i ∧ i < 2 ^ 62 ∧ -(2 ^ 62) ≤ j ∧ j < 2 ^ 62) ∧ P i j
theorem rng1 {ta : TA} {R : It → Hp → Prop} (h : ta σ H fun vs H1 => RgOne vs fun j => R (Itr 0 j.toNat) H1) : iRng1 ta σ H R := h
theorem rng2 {ta : TA} {R : It → Hp → Prop} (h : ta σ H fun vs H1 => RgTwo vs fun i j => R (Itr i (j - i).toNat) H1) : iRng2 ta σ H R := h
theorem rg1 {P : Int → Prop} {j : Int} (h1 : -(2 ^ 62) ≤ j) (h2 : j < 2 ^ 62) (h : P j) : RgOne [.int j] P := ⟨j, rfl, h1, h2, h⟩
theorem rg2 {P : Int → Int → Prop} {i j : Int} (h1 : -(2 ^ 62) ≤ i) (h2 : i < 2 ^ 62) (h3 : -(2 ^ 62) ≤ j) (h4 : j < 2 ^ 62) (h : P i j) : RgTwo [.int i, .int j] P := ⟨i, j, rfl, ⟨h1, h2, h3, h4⟩, h⟩
theorem forN {lo : Int} {n : Nat} {g : TG} {tb : TS} {D : Ends} (Pv : Nat → L2.St → Hp → Prop) (h0 : Pv 0 σ H)
    (hs : ∀ i σ H, i < n → Pv i σ H → g (.int (lo + i)) σ H fun σ2 H2 => tb (Ends.mk (Pv (i + 1)) D.rt D.nx (Pv (i + 1))) σ2 H2) (hd : ∀ σ H, Pv n σ H → D.nx σ H) : ForJ (Itr lo n) g tb D σ H := for_range Pv h0 hs hd
def RefOne (v : V) (P : Addr → Prop) : Prop := ∃ a, v = .ref a ∧ P a
theorem itup {tl : TE} {R : It → Hp → Prop} (h : tl σ H fun x H1 => ∃ a, x = .ref a ∧ (∃ xs, SqT K H1 a xs) ∧ R (Itt K a) H1) : iTup K tl σ H R := h
theorem ilst {tl : TE} {R : It → Hp → Prop} (h : tl σ H fun x H1 => ∃ a, x = .ref a ∧ (∃ xs, SqL K H1 a xs) ∧ R (Itl K a) H1) : iList K tl σ H R := h
theorem refs {p : Addr} {xs : List V} {S : Addr → List V → Prop} {R : Addr → Prop} (h1 : S p xs) (h : R p) : ∃ a, V.ref p = .ref a ∧ (∃ ys, S a ys) ∧ R a := ⟨p, rfl, ⟨xs, h1⟩, h⟩
def LcJ (J : It) (g : TG) (tt : TT) (te : TE) (vs : List Nat) (σ : L2.St) (H1 : Hp) (Q : VK) : Prop := tLc (fun _ Hs R => R J Hs) g tt te vs σ H1 Q
theorem lcE {wi : TI} {g : TG} {tt : TT} {vs : List Nat} (h : wi σ H fun J H1 => LcJ J g tt te vs σ H1 Q) : tLc wi g tt te vs σ H Q := h
/-- [int for k in range(n)], each of them by c draws -/
theorem lcI {p a : Addr} {N c n : Nat} {lo : Int} {g : TG} {vs : List Nat} (P : Int → Prop) (hn : n ≤ 900) (d : Dw H p a N)
    (hs : ∀ i H' (Q' : VK), i < n → Dw H' p a (N + c * i) → Kp p H H' → (∀ x H4, P x → Dw H4 p a (N + c * i + c) → Kp p H' H4 → Q' (.int x) H4) → g (.int (lo + i)) (wipe σ vs) H' fun σ2 H2 => wipe σ2 vs = wipe σ vs ∧ te σ2 H2 Q')
    (hq : ∀ H' D (xs : List Int), H' D = some (.lst (xs.map V.int)) → xs.length = n → (∀ x ∈ xs, P x) → Dw H' p a (N + c * n) → Kp p H H' → H D = none → D ≠ p → Q (.ref D) H') : LcJ (Itr lo n) g tYes te vs σ H Q := by
  intro D nD
  have Dp := (d.ne nD).1
  have Da := (d.ne nD).2
  refine lc_range (lo := lo) (n := n) (fun i H' => ∃ xs : List Int, H' D = some (.lst (xs.map V.int)) ∧ xs.length = i ∧ (∀ x ∈ xs, P x) ∧ Dw H' p a (N + c * i) ∧ Kp p H H')
    ⟨[], upd_same, rfl, (fun x h => nomatch h), (d.new nD).mono (by omega), same_kp (same_upd nD)⟩ (fun i H5 hi ⟨xs, h1, h2, h3, h4, h5⟩ => ?_) (fun H5 ⟨xs, h1, h2, h3, h4, h5⟩ => hq H5 D xs h1 h2 h3 h4 h5 nD Dp)
  refine hs i H5 _ hi h4 h5 (fun x H4 px d4 k4 => ⟨_, k4 _ _ Dp h1, ?_, xs ++ [x], ?_, ?_, ?_, ?_, ?_⟩)
  · rw [List.length_map]
    exact small1000 (by omega)
  · rw [upd_same, List.map_append]
    rfl
  · rw [List.length_append, h2]
    rfl
  · intro z hz
    rcases List.mem_append.mp hz with hz | hz
    · exact h3 z hz
    · rw [List.mem_singleton.mp hz]
      exact px
  · have e : N + c * (i + 1) = N + c * i + c := by rw [Nat.mul_add, Nat.mul_one, Nat.add_assoc]
    rw [e]
    exact d4.mut Dp Da
  · intro b o hb e
    have e2 := k4 _ _ hb (h5 _ _ hb e)
    rw [upd_ne (ne_of_none e nD)]
    exact e2
/-- [f(x) for x in a tuple (a list) of ints] -/
theorem lcT {a : Addr} {ns : List Int} {g : TG} {vs : List Nat} (f : Int → Int) (hl : ns.length ≤ 900) (hT : SqT K H a (ns.map V.int))
    (hs : ∀ n H' (Q' : VK), n ∈ ns → Same H H' → Q' (.int (f n)) H' → g (.int n) (wipe σ vs) H' fun σ2 H2 => wipe σ2 vs = wipe σ vs ∧ te σ2 H2 Q')
    (hq : ∀ H' D, H' D = some (.lst ((ns.map f).map V.int)) → Same H H' → H D = none → Q (.ref D) H') : LcJ (Itt K a) g tYes te vs σ H Q := by
  intro D nD
  refine lc_tup (K := K) (a := a) (xs := ns.map V.int) (fun i H' => H' D = some (.lst (((ns.take i).map f).map V.int)) ∧ Same H H') ⟨upd_same, same_upd nD⟩ (fun i H' _ h => same_seqT h.2 hT) (fun i x H5 hx ⟨h1, h5⟩ => ?_) (fun H5 ⟨h1, h5⟩ => ?_)
  · rw [List.getElem?_map] at hx
    cases hn : ns[i]? with
    | none =>
      rw [hn] at hx
      cases hx
    | some n =>
      rw [hn] at hx
      cases hx
      refine hs n H5 _ (List.mem_of_getElem? hn) h5 ⟨_, h1, ?_, ?_, ?_⟩
      · rw [List.length_map, List.length_map, List.length_take]
        exact small1000 (by omega)
      · rw [upd_same, List.take_add_one, hn, List.map_append, List.map_append]
        rfl
      · exact same_mut h5 nD
  · rw [List.length_map, List.take_length] at h1
    exact hq H5 D h1 h5 nD
end
theorem isEq {α : Sort _} {a b : α} (h : a = b) : a = b := h
theorem bm {σ : L2.St} {H : Hp} {Q : VK} {T : String} {r : V → List V → Hp → VK → Prop} {to : TE} {t : TA} {K : PySem.W.Frag} (h : to σ H fun x H1 => tyV K T x H1 ∧ t σ H1 fun xs H2 => r x xs H2 Q) : tBM K T r to t σ H Q := h
theorem bmT {H : Hp} {K : PySem.W.Frag} {p : Addr} {xs : List V} {B : Prop} (h1 : H p = some (.lst xs)) (h2 : B) : tyV K "list" (.ref p) H ∧ B := ⟨.inl ⟨rfl, _, SqL.of h1⟩, h2⟩
theorem app {H : Hp} {Q : VK} {l : Addr} {xs : List V} {y : V} (h : H l = some (.lst xs)) (z : xs.length ≤ 1000000) (q : ∀ H', H' = upd H l (.lst (xs ++ [y])) → H' l = some (.lst (xs ++ [y])) → Q .non H') : rAppend (.ref l) [y] H Q :=
  ⟨l, xs, y, rfl, rfl, h, Nat.lt_of_le_of_lt z (by decide), q _ rfl upd_same⟩
theorem dput {σ : L2.St} {H : Hp} {td ty tv : TE} {nx : L2.St → Hp → Prop} {rt : VK} {bk ct : L2.St → Hp → Prop} (h : tv σ H fun v H1 => td σ H1 fun x H2 => ty σ H2 fun y H3 => ∃ a H4, x = .ref a ∧ DPut H3 a y v H4 ∧ nx σ H4) : sDPut td ty tv (Ends.mk nx rt bk ct) σ H := h
theorem dget {σ : L2.St} {H : Hp} {Q : VK} {td ty : TE} (h : td σ H fun x H1 => ty σ H1 fun y H2 => ∃ a v, x = .ref a ∧ DGet H2 a y (some v) ∧ Q v H2) : tDGet td ty σ H Q := h
theorem din {σ : L2.St} {H : Hp} {Q : VK} {td ty : TE} (h : ty σ H fun y H1 => td σ H1 fun x H2 => ∃ a o, x = .ref a ∧ DGet H2 a y o ∧ Q (.bl o.isSome) H2) : tDIn ty td σ H Q := h
theorem dget2 {σ : L2.St} {H : Hp} {Q : VK} {td ty tx : TE} (h : td σ H fun x H1 => ∃ a, x = .ref a ∧ IsD H1 a ∧ ty σ H1 fun y H2 => tx σ H2 fun z H3 => ∃ o, DGet H3 a y o ∧ Q (o.getD z) H3) : tDGet2 td ty tx σ H Q := h
/-! slots behind many stores -/
def LenOk (n : Nat) (σ : L2.St) : Prop := n < σ.length
theorem lenS {n m : Nat} {σ : L2.St} {x : Option V} (h : LenOk n σ) : LenOk n (σ.set m x) := by
  unfold LenOk at *
  rw [List.length_set]
  exact h
theorem lenB {n : Nat} {σ : L2.St} (h : Nat.ble (n + 1) σ.length = true) : LenOk n σ := Nat.le_of_ble_eq_true h
theorem gsE {n : Nat} {σ : L2.St} {x r : Option V} (h : LenOk n σ) (e : some x = some r) : (σ.set n x)[n]? = some r := by
  rw [List.getElem?_set_self h]
  exact e
theorem gsN {n m : Nat} {σ : L2.St} {x : Option V} {r : Option (Option V)} (h : Nat.beq m n = false) (e : σ[n]? = r) : (σ.set m x)[n]? = r := by
  rw [List.getElem?_set_ne (fun z => by rw [z, Nat.beq_refl] at h; cases h)]
  exact e
theorem isLeI {a b : Int} (h : a ≤ b) : a ≤ b := h
theorem cdiv {i j : Int} (h : decide (0 < j ∧ j < 1073741824) = true) : CDiv i j := of_decide_eq_true (p := 0 < j ∧ j < 1073741824) h
theorem cpow {i j : Int} (h : decide (0 ≤ j ∧ j ≤ 1000000 ∧ i.natAbs < 2 ^ 64) = true) : CPow i j := of_decide_eq_true (p := 0 ≤ j ∧ j ≤ 1000000 ∧ i.natAbs < 2 ^ 64) h
theorem notT {A B : Prop} (h : B) : if (!true) = true then A else B := h
theorem notF {A B : Prop} (h : A) : if (!false) = true then A else B := h
theorem isNe {α : Sort _} {a b : α} (h : a ≠ b) : a ≠ b := h
theorem cdivX {n : Nat} {i j : Int} (h1 : j ≠ 0) (h2 : Bd n j) (l : Nat.ble n 9000 = true) : CDivX i j := ⟨h1, Nat.lt_of_lt_of_le h2 (Nat.pow_le_pow_right (by decide) (Nat.le_of_ble_eq_true l))⟩
theorem isLe {a b : Nat} (h : a ≤ b) : a ≤ b := h
theorem isLtI {a b : Int} (h : a < b) : a < b := h
theorem isLt {a b : Nat} (h : a < b) : a < b := h
end R
/-! unpacking of a list -/
theorem pgU {X : Cx} (K : PySem.W.Frag) (n : Nat) {es : List Expr} {k : Nat} {pos : Pos} {t : TGs} (hc : X.calm = true) (h : PGs X es t) (hn : (assignEach es X.env).length = n := by rfl) (hst : (assignEach es X.env).findIdx? (·.1) = none := by rfl) (hK : X.K = K := by rfl) : PG X (.Tuple es k pos) (gUnl K n t) := by
  subst hK
  exact pg_unl hc h hn hst
theorem r_gunl {K : PySem.W.Frag} {σ : L2.St} {H : Hp} {n : Nat} {t : TGs} {a : Addr} {xs : List V} {Q : L2.St → Hp → Prop} (h1 : SqL K H a xs) (h2 : xs.length = n) (h : t xs σ H Q) : gUnl K n t (.ref a) σ H Q := ⟨a, xs, rfl, h1, h2, h⟩

/-! ### lists of tuples of ints -/
def tD (t : List Int) : PyData := .tuple (t.map PyData.int)
inductive Tps (K : PySem.W.Frag) (H : Hp) : List V → List (List Int) → Prop where
  | nil : Tps K H [] []
  | cons {a : Addr} {t : List Int} {vs : List V} {ts : List (List Int)} : SqT K H a (t.map V.int) → Tps K H vs ts → Tps K H (.ref a :: vs) (t :: ts)
theorem Tps.kt {K : PySem.W.Frag} {H H' : Hp} (s : KT K H H') : ∀ {vs : List V} {ts : List (List Int)}, Tps K H vs ts → Tps K H' vs ts
  | _, _, .nil => .nil
  | _, _, .cons h t => .cons (s _ _ h) (t.kt s)
theorem Tps.same {K : PySem.W.Frag} {H H' : Hp} {vs : List V} {ts : List (List Int)} (h : Tps K H vs ts) (s : Same H H') : Tps K H' vs ts := h.kt (same_kt s)
theorem Tps.len {K : PySem.W.Frag} {H : Hp} : ∀ {vs : List V} {ts : List (List Int)}, Tps K H vs ts → vs.length = ts.length
  | _, _, .nil => rfl
  | _, _, .cons _ t => by rw [List.length_cons, List.length_cons, t.len]
theorem Tps.app {K : PySem.W.Frag} {H : Hp} : ∀ {vs ws : List V} {ts us : List (List Int)}, Tps K H vs ts → Tps K H ws us → Tps K H (vs ++ ws) (ts ++ us)
  | _, _, _, _, .nil, h => h
  | _, _, _, _, .cons a t, h => .cons a (t.app h)
theorem Tps.snoc {K : PySem.W.Frag} {H : Hp} {vs : List V} {ts : List (List Int)} {a : Addr} {t : List Int} (h : Tps K H vs ts) (s : SqT K H a (t.map V.int)) : Tps K H (vs ++ [.ref a]) (ts ++ [t]) := h.app (.cons s .nil)
theorem Tps.at {K : PySem.W.Frag} {H : Hp} : ∀ {vs : List V} {ts : List (List Int)} {i : Nat} {x : V}, Tps K H vs ts → vs[i]? = some x → ∃ a t, x = .ref a ∧ ts[i]? = some t ∧ SqT K H a (t.map V.int)
  | _, _, _, _, .nil, h => by cases h
  | _, _, 0, _, .cons s t, h => by
    cases h
    exact ⟨_, _, rfl, rfl, s⟩
  | _, _, i + 1, _, .cons s t, h => t.at (i := i) h
theorem Tps.dp {K : PySem.W.Frag} {H : Hp} : ∀ {vs : List V} {ts : List (List Int)}, Tps K H vs ts → DpAll K H vs (ts.map tD)
  | _, _, .nil => .nil
  | _, _, .cons h t => .cons (.tup h (dp_ints _)) t.dp
theorem lay_tups : ∀ ts : List (List Int), PyData.canLayAll0 (ts.map tD) = true
  | [] => rfl
  | t :: ts => by
    rw [List.map_cons, PyData.canLayAll0, lay_tups ts]
    unfold tD
    rw [PyData.canLay0, lay_ints]
    rfl
theorem depth_tups : ∀ ts : List (List Int), PyData.depthAll (ts.map tD) ≤ 1
  | [] => by rw [List.map_nil, PyData.depthAll]; decide
  | t :: ts => by
    rw [List.map_cons, PyData.depthAll]
    unfold tD
    rw [PyData.depth, depth_ints]
    exact Nat.max_le.mpr ⟨by decide, depth_tups ts⟩
theorem shaped_tups (ts : List (List Int)) : SeqAt.shaped (.list (ts.map tD)) = true := by
  show (PyData.canLay0 (.list (ts.map tD)) && decide (PyData.depth (.list (ts.map tD)) ≤ 64)) = true
  rw [Bool.and_eq_true]
  refine ⟨by rw [PyData.canLay0]; exact lay_tups ts, decide_eq_true ?_⟩
  rw [PyData.depth]
  have := depth_tups ts
  omega
theorem shaped_tupsT (ts : List (List Int)) : SeqAt.shaped (.tuple (ts.map tD)) = true := by
  show (PyData.canLay0 (.tuple (ts.map tD)) && decide (PyData.depth (.tuple (ts.map tD)) ≤ 64)) = true
  rw [Bool.and_eq_true]
  refine ⟨by rw [PyData.canLay0]; exact lay_tups ts, decide_eq_true ?_⟩
  rw [PyData.depth]
  have := depth_tups ts
  omega
theorem eqvAll_tups : ∀ ts us : List (List Int), PyData.eqvAll (ts.map tD) (us.map tD) = decide (ts = us)
  | [], [] => by simp [PyData.eqvAll]
  | [], _ :: _ => by simp [PyData.eqvAll]
  | _ :: _, [] => by simp [PyData.eqvAll]
  | t :: ts, u :: us => by
    rw [List.map_cons, List.map_cons, PyData.eqvAll, eqvAll_tups ts us]
    unfold tD
    rw [R.eqB]
    by_cases h : t = u <;> simp [h]
theorem any_tups (t : List Int) : ∀ ts : List (List Int), (ts.map tD).any (fun z => PyData.eqv z (tD t)) = decide (t ∈ ts)
  | [] => by simp
  | u :: ts => by
    rw [List.map_cons, List.any_cons, any_tups t ts]
    have e : PyData.eqv (tD u) (tD t) = decide (u = t) := R.eqB
    rw [e]
    by_cases h : u = t
    · subst h
      simp
    · have h2 : ¬ t = u := fun z => h z.symm
      by_cases h3 : t ∈ ts <;> simp [h, h2, h3]
namespace R
theorem eqTps {K : PySem.W.Frag} {H : Hp} {Q : VK} {p q : Addr} {vs ws : List V} {ts us : List (List Int)} (h1 : SqL K H p vs) (t1 : Tps K H vs ts) (h2 : SqL K H q ws) (t2 : Tps K H ws us) (h : Q (.bl (decide (ts = us))) H) : rEqD K (.ref p) (.ref q) H Q := by
  refine ⟨_, _, .lst h1 t1.dp, .lst h2 t2.dp, shaped_tups _, shaped_tups _, ?_⟩
  rw [PyData.eqv, eqvAll_tups]
  exact h
theorem neTps {K : PySem.W.Frag} {H : Hp} {Q : VK} {p q : Addr} {vs ws : List V} {ts us : List (List Int)} (h1 : SqL K H p vs) (t1 : Tps K H vs ts) (h2 : SqL K H q ws) (t2 : Tps K H ws us) (h : Q (.bl (!decide (ts = us))) H) : rNeD K (.ref p) (.ref q) H Q := by
  refine ⟨_, _, .lst h1 t1.dp, .lst h2 t2.dp, shaped_tups _, shaped_tups _, ?_⟩
  rw [PyData.eqv, eqvAll_tups]
  exact h
theorem notInT {K : PySem.W.Frag} {H : Hp} {Q : VK} {p q : Addr} {vs : List V} {t : List Int} {ts : List (List Int)} (h1 : SqT K H p (t.map V.int)) (h2 : SqL K H q vs) (t2 : Tps K H vs ts) (h : Q (.bl (!decide (t ∈ ts))) H) : rNotInD K (.ref p) (.ref q) H Q := by
  refine ⟨_, _, .tup h1 (dp_ints _), .lst h2 t2.dp, shaped_intsT _, shaped_tups _, ?_⟩
  have e := any_tups t ts
  unfold tD at e
  rw [show (ts.map tD) = ts.map fun t => .tuple (t.map PyData.int) from rfl, e]
  exact h
theorem inT {K : PySem.W.Frag} {H : Hp} {Q : VK} {p q : Addr} {vs : List V} {t : List Int} {ts : List (List Int)} (h1 : SqT K H p (t.map V.int)) (h2 : SqL K H q vs) (t2 : Tps K H vs ts) (h : Q (.bl (decide (t ∈ ts))) H) : rInD K (.ref p) (.ref q) H Q := by
  refine ⟨_, _, .tup h1 (dp_ints _), .lst h2 t2.dp, shaped_intsT _, shaped_tups _, ?_⟩
  have e := any_tups t ts
  unfold tD at e
  rw [show (ts.map tD) = ts.map fun t => .tuple (t.map PyData.int) from rfl, e]
  exact h
end R
theorem room65 {k : Nat} {A : Around} (r : Room k A) : A.units + 65 < cLine := by
  have := r.un
  omega
theorem notInDQ {X : Cx} (K : PySem.W.Frag) (hu : X.A.units + 65 < cLine) (h : X.K = K := by rfl) : OpR X (compareOp .NotIn) (rNotInD K) := by
  subst h
  exact op_notInD hu
theorem inDQ {X : Cx} (K : PySem.W.Frag) (hu : X.A.units + 65 < cLine) (h : X.K = K := by rfl) : OpR X (compareOp .In) (rInD K) := by
  subst h
  exact op_inD hu

/-! ### [f x for x in .. if p x] -/
def rgI (lo : Int) (n : Nat) : List Int := (List.range n).map fun (t : Nat) => lo + (t : Int)
theorem rgI_succ (lo : Int) (n : Nat) : rgI lo (n + 1) = rgI lo n ++ [lo + (n : Int)] := by
  unfold rgI
  rw [List.range_succ, List.map_append]
  rfl
theorem rgI_len (lo : Int) (n : Nat) : (rgI lo n).length = n := by
  unfold rgI
  rw [List.length_map, List.length_range]
theorem mem_rgI {lo x : Int} {n : Nat} : x ∈ rgI lo n ↔ lo ≤ x ∧ x < lo + (n : Int) := by
  unfold rgI
  rw [List.mem_map]
  constructor
  · rintro ⟨t, ht, rfl⟩
    have := List.mem_range.mp ht
    omega
  · rintro ⟨h1, h2⟩
    exact ⟨(x - lo).toNat, List.mem_range.mpr (by omega), by omega⟩
theorem rgI_lt (lo : Int) (n : Nat) : (rgI lo n).Pairwise (· < ·) := by
  unfold rgI
  exact List.pairwise_map.mpr ((List.pairwise_lt_range (n := n)).imp fun h => by omega)
theorem lt_ext : ∀ {l m : List Int}, l.Pairwise (· < ·) → m.Pairwise (· < ·) → (∀ x, x ∈ l ↔ x ∈ m) → l = m
  | [], [], _, _, _ => rfl
  | [], b :: m, _, _, h => absurd ((h b).mpr List.mem_cons_self) (by simp)
  | a :: l, [], _, _, h => absurd ((h a).mp List.mem_cons_self) (by simp)
  | a :: l, b :: m, h1, h2, h => by
    obtain ⟨a1, a2⟩ := List.pairwise_cons.mp h1
    obtain ⟨b1, b2⟩ := List.pairwise_cons.mp h2
    have e : a = b := by
      rcases List.mem_cons.mp ((h a).mp List.mem_cons_self) with k | k
      · exact k
      · rcases List.mem_cons.mp ((h b).mpr List.mem_cons_self) with k2 | k2
        · exact k2.symm
        · have := a1 b k2
          have := b1 a k
          omega
    subst e
    rw [lt_ext a2 b2 fun x => ?_]
    constructor
    · intro hx
      rcases List.mem_cons.mp ((h x).mp (List.mem_cons_of_mem _ hx)) with k | k
      · have := a1 x hx
        omega
      · exact k
    · intro hx
      rcases List.mem_cons.mp ((h x).mpr (List.mem_cons_of_mem _ hx)) with k | k
      · have := b1 x hx
        omega
      · exact k
theorem le_nodup_lt {l : List Int} (h : l.Pairwise (· ≤ ·)) (n : l.Nodup) : l.Pairwise (· < ·) := by
  refine List.Pairwise.imp ?_ (h.and n)
  intro a b ⟨x, y⟩
  have : a ≠ b := y
  omega
namespace R
section
variable {K : PySem.W.Frag} {σ : L2.St} {H : Hp} {Q : VK} {g : TG} {tt : TT} {te : TE} {vs : List Nat}
theorem lcFR {lo : Int} {n : Nat} (p : Int → Bool) (f : Int → Int) (hn : n ≤ 100000)
    (hs : ∀ i H' (C : V → Hp → Prop) (E : Hp → Prop), i < n → Same H H' → (p (lo + i) = true → C (.int (f (lo + i))) H') → (p (lo + i) = false → E H') → g (.int (lo + i)) (wipe σ vs) H' fun σ2 H2 => wipe σ2 vs = wipe σ vs ∧ tt σ2 H2 fun k H3 => if k = true then te σ2 H3 C else E H3)
    (hq : ∀ H' D, H' D = some (.lst ((((rgI lo n).filter p).map f).map V.int)) → Same H H' → H D = none → Q (.ref D) H') : LcJ (Itr lo n) g tt te vs σ H Q := by
  intro D nD
  refine lc_range (lo := lo) (n := n) (fun i H' => H' D = some (.lst ((((rgI lo i).filter p).map f).map V.int)) ∧ Same H H') ⟨upd_same, same_upd nD⟩ (fun i H5 hi ⟨h1, h5⟩ => ?_) (fun H5 ⟨h1, h5⟩ => hq H5 D h1 h5 nD)
  refine hs i H5 _ _ hi h5 (fun e => ⟨_, h1, ?_, ?_, same_mut h5 nD⟩) (fun e => ⟨?_, h5⟩)
  · rw [List.length_map, List.length_map]
    have := List.length_filter_le p (rgI lo i)
    rw [rgI_len] at this
    exact Nat.lt_of_le_of_lt (Nat.le_trans this (by omega : i ≤ 100000)) (by decide)
  · rw [upd_same, rgI_succ, List.filter_append, List.filter_cons_of_pos (by exact e), List.map_append, List.map_append]
    rfl
  · rw [rgI_succ, List.filter_append, List.filter_cons_of_neg (by rw [e]; decide), List.filter_nil, List.append_nil]
    exact h1
theorem lcFL {a : Addr} {ns : List Int} (p : Int → Bool) (f : Int → Int) (hl : ns.length ≤ 100000) (hT : SqL K H a (ns.map V.int))
    (hs : ∀ n H' (C : V → Hp → Prop) (E : Hp → Prop), n ∈ ns → Same H H' → (p n = true → C (.int (f n)) H') → (p n = false → E H') → g (.int n) (wipe σ vs) H' fun σ2 H2 => wipe σ2 vs = wipe σ vs ∧ tt σ2 H2 fun k H3 => if k = true then te σ2 H3 C else E H3)
    (hq : ∀ H' D, H' D = some (.lst (((ns.filter p).map f).map V.int)) → Same H H' → H D = none → Q (.ref D) H') : LcJ (Itl K a) g tt te vs σ H Q := by
  intro D nD
  refine lc_list (K := K) (a := a) (xs := ns.map V.int) (fun i H' => H' D = some (.lst ((((ns.take i).filter p).map f).map V.int)) ∧ Same H H') ⟨upd_same, same_upd nD⟩ (fun i H' _ h => h.2.seq hT) (fun i x H5 hx ⟨h1, h5⟩ => ?_) (fun H5 ⟨h1, h5⟩ => ?_)
  · rw [List.getElem?_map] at hx
    cases hn : ns[i]? with
    | none =>
      rw [hn] at hx
      cases hx
    | some n =>
      rw [hn] at hx
      cases hx
      refine hs n H5 _ _ (List.mem_of_getElem? hn) h5 (fun e => ⟨_, h1, ?_, ?_, same_mut h5 nD⟩) (fun e => ⟨?_, h5⟩)
      · rw [List.length_map, List.length_map]
        have := List.length_filter_le p (ns.take i)
        rw [List.length_take] at this
        exact Nat.lt_of_le_of_lt (Nat.le_trans this (by omega : min i ns.length ≤ 100000)) (by decide)
      · rw [upd_same, List.take_add_one, hn, Option.toList_some, List.filter_append, List.filter_cons_of_pos (by exact e), List.map_append, List.map_append]
        rfl
      · rw [List.take_add_one, hn, Option.toList_some, List.filter_append, List.filter_cons_of_neg (by rw [e]; decide), List.filter_nil, List.append_nil]
        exact h1
  · rw [List.length_map, List.take_length] at h1
    exact hq H5 D h1 h5 nD
end
theorem yes {σ : L2.St} {H : Hp} {A B : Hp → Prop} (h : A H) : tYes σ H fun k H3 => if k = true then A H3 else B H3 := by
  unfold tYes
  show if true = true then A H else B H
  rw [if_pos rfl]
  exact h
theorem srt {K : PySem.W.Frag} {H : Hp} {Q : VK} {a : Addr} {ns : List Int} (h : SqL K H a (ns.map V.int)) (q : ∀ (ns' : List Int) H' p, ns'.Perm ns → ns'.Pairwise (· ≤ ·) → Same H H' → H p = none → H' p = some (.lst (ns'.map V.int)) → Q (.ref p) H') : rSortedI K [.ref a] H Q :=
  ⟨a, ns, rfl, h, fun ns' p pm s n => q ns' _ p pm s (same_upd n) n upd_same⟩
theorem eqInts {K : PySem.W.Frag} {H : Hp} {Q : VK} {p q : Addr} {ns ms : List Int} (h1 : SqL K H p (ns.map V.int)) (h2 : SqL K H q (ms.map V.int)) (h : Q (.bl (decide (ns = ms))) H) : rEqD K (.ref p) (.ref q) H Q := by
  refine ⟨_, _, .lst h1 (dp_ints ns), .lst h2 (dp_ints ms), shaped_ints ns, shaped_ints ms, ?_⟩
  have e : PyData.eqv (.list (ns.map PyData.int)) (.list (ms.map PyData.int)) = decide (ns = ms) := by
    have h := eqB (ns := ns) (ms := ms)
    rw [PyData.eqv] at h
    rw [PyData.eqv]
    exact h
  rw [e]
  exact h
theorem neInts {K : PySem.W.Frag} {H : Hp} {Q : VK} {p q : Addr} {ns ms : List Int} (h1 : SqL K H p (ns.map V.int)) (h2 : SqL K H q (ms.map V.int)) (h : Q (.bl (!decide (ns = ms))) H) : rNeD K (.ref p) (.ref q) H Q := by
  refine ⟨_, _, .lst h1 (dp_ints ns), .lst h2 (dp_ints ms), shaped_ints ns, shaped_ints ms, ?_⟩
  have e : PyData.eqv (.list (ns.map PyData.int)) (.list (ms.map PyData.int)) = decide (ns = ms) := by
    have h := eqB (ns := ns) (ms := ms)
    rw [PyData.eqv] at h
    rw [PyData.eqv]
    exact h
  rw [e]
  exact h
end R
theorem srtQ {X : Cx} (K : PySem.W.Frag) (h : X.K = K := by rfl) : CallR X (.builtin "sorted") (rSortedI K) := by
  subst h
  exact cr_sortedI

/-! ### lists of pairs of ints -/
inductive Pd (H : Hp) : List V → List (Int × Int) → Prop where
  | nil : Pd H [] []
  | cons {a : Addr} {p : Int × Int} {vs : List V} {ps : List (Int × Int)} : H a = some (.tup [.int p.1, .int p.2]) → Pd H vs ps → Pd H (.ref a :: vs) (p :: ps)
def pL (p : Int × Int) : List Int := [p.1, p.2]
theorem pL_inj {p q : Int × Int} (h : pL p = pL q) : p = q := by
  unfold pL at h
  injection h with h1 h2
  injection h2 with h2 _
  exact Prod.ext h1 h2
theorem Pd.mono {H H' : Hp} (s : ∀ b xs, H b = some (.tup xs) → H' b = some (.tup xs)) : ∀ {vs : List V} {ps : List (Int × Int)}, Pd H vs ps → Pd H' vs ps
  | _, _, .nil => .nil
  | _, _, .cons h t => .cons (s _ _ h) (t.mono s)
theorem Pd.same {H H' : Hp} {vs : List V} {ps : List (Int × Int)} (h : Pd H vs ps) (s : Same H H') : Pd H' vs ps := h.mono fun _ _ e => s _ _ e
theorem Pd.len {H : Hp} : ∀ {vs : List V} {ps : List (Int × Int)}, Pd H vs ps → vs.length = ps.length
  | _, _, .nil => rfl
  | _, _, .cons _ t => by rw [List.length_cons, List.length_cons, t.len]
theorem Pd.snoc {H : Hp} {a : Addr} {p : Int × Int} (s : H a = some (.tup [.int p.1, .int p.2])) : ∀ {vs : List V} {ps : List (Int × Int)}, Pd H vs ps → Pd H (vs ++ [.ref a]) (ps ++ [p])
  | _, _, .nil => .cons s .nil
  | _, _, .cons h t => .cons h (t.snoc s)
theorem Pd.tps {K : PySem.W.Frag} {H : Hp} : ∀ {vs : List V} {ps : List (Int × Int)}, Pd H vs ps → Tps K H vs (ps.map pL)
  | _, _, .nil => .nil
  | _, _, .cons h t => .cons (SqT.of h) t.tps
theorem Pd.off {H : Hp} {D : Addr} {xs ys : List V} {vs : List V} {ps : List (Int × Int)} (h : Pd H vs ps) (hD : H D = some (.lst xs)) : Pd (upd H D (.lst ys)) vs ps := h.mono fun b zs e => by
  rw [upd_ne (ne_of e hD (by intro z; cases z))]
  exact e
theorem map_pL_eq {ps qs : List (Int × Int)} : ps.map pL = qs.map pL ↔ ps = qs := by
  constructor
  · intro h
    induction ps generalizing qs with
    | nil =>
      cases qs with
      | nil => rfl
      | cons q qs => cases h
    | cons p ps ih =>
      cases qs with
      | nil => cases h
      | cons q qs =>
        injection h with h1 h2
        rw [pL_inj h1, ih h2]
  · rintro rfl
    rfl
theorem mem_pL {p : Int × Int} {ps : List (Int × Int)} : pL p ∈ ps.map pL ↔ p ∈ ps := by
  rw [List.mem_map]
  constructor
  · rintro ⟨q, hq, e⟩
    rw [← pL_inj e]
    exact hq
  · intro h
    exact ⟨p, h, rfl⟩
/-- the order of pairs -/
def ltp (p q : Int × Int) : Prop := p.1 < q.1 ∨ (p.1 = q.1 ∧ p.2 < q.2)
theorem ltp_ext : ∀ {l m : List (Int × Int)}, l.Pairwise ltp → m.Pairwise ltp → (∀ x, x ∈ l ↔ x ∈ m) → l = m
  | [], [], _, _, _ => rfl
  | [], b :: m, _, _, h => absurd ((h b).mpr List.mem_cons_self) (by simp)
  | a :: l, [], _, _, h => absurd ((h a).mp List.mem_cons_self) (by simp)
  | a :: l, b :: m, h1, h2, h => by
    obtain ⟨a1, a2⟩ := List.pairwise_cons.mp h1
    obtain ⟨b1, b2⟩ := List.pairwise_cons.mp h2
    have e : a = b := by
      rcases List.mem_cons.mp ((h a).mp List.mem_cons_self) with k | k
      · exact k
      · rcases List.mem_cons.mp ((h b).mpr List.mem_cons_self) with k2 | k2
        · exact k2.symm
        · have x1 := a1 b k2
          have x2 := b1 a k
          unfold ltp at x1 x2
          omega
    subst e
    rw [ltp_ext a2 b2 fun x => ?_]
    constructor
    · intro hx
      rcases List.mem_cons.mp ((h x).mp (List.mem_cons_of_mem _ hx)) with k | k
      · have x1 := a1 x hx
        rw [k] at x1
        unfold ltp at x1
        omega
      · exact k
    · intro hx
      rcases List.mem_cons.mp ((h x).mpr (List.mem_cons_of_mem _ hx)) with k | k
      · have x1 := b1 x hx
        rw [k] at x1
        unfold ltp at x1
        omega
      · exact k
def kH (H : Hp) : V → Int × Int
  | .ref a => match H a with
    | some (.tup [.int x, .int y]) => (x, y)
    | _ => (0, 0)
  | _ => (0, 0)
theorem kH_at {H : Hp} {a : Addr} {x y : Int} (h : H a = some (.tup [.int x, .int y])) : kH H (.ref a) = (x, y) := by
  show (match H a with | some (.tup [.int x, .int y]) => (x, y) | _ => ((0 : Int), (0 : Int))) = (x, y)
  rw [h]
theorem Pd.keys {H : Hp} : ∀ {vs : List V} {ps : List (Int × Int)}, Pd H vs ps → vs.map (kH H) = ps
  | _, _, .nil => rfl
  | _, _, .cons h t => by rw [List.map_cons, kH_at h, t.keys]
theorem Pd.mem {H : Hp} : ∀ {vs : List V} {ps : List (Int × Int)}, Pd H vs ps → ∀ x ∈ vs, ∃ t, x = V.ref t ∧ H t = some (.tup [.int (kH H x).1, .int (kH H x).2])
  | _, _, .nil, x, h => by cases h
  | _, _, .cons h t, x, hx => by
    rcases List.mem_cons.mp hx with rfl | hx
    · exact ⟨_, rfl, by rw [kH_at h]; exact h⟩
    · exact t.mem x hx
theorem pd_of {H : Hp} : ∀ {vs : List V}, (∀ x ∈ vs, ∃ t, x = V.ref t ∧ H t = some (.tup [.int (kH H x).1, .int (kH H x).2])) → Pd H vs (vs.map (kH H))
  | [], _ => .nil
  | v :: vs, h => by
    obtain ⟨t, rfl, ht⟩ := h v List.mem_cons_self
    exact .cons ht (pd_of fun x hx => h x (List.mem_cons_of_mem _ hx))
theorem kp_seqTL {K : PySem.W.Frag} {H H' : Hp} {p b : Addr} {ys xs : List V} (f : Kp p H H') (hp : H p = some (.lst ys)) (h : SqT K H b xs) : SqT K H' b xs := by
  rcases h with (h | ⟨o, h⟩) | h
  · refine .inl (.inl (f _ _ ?_ h))
    rintro rfl
    rw [hp] at h
    cases h
  · refine .inl (.inr ⟨o, f _ _ ?_ h⟩)
    rintro rfl
    rw [hp] at h
    cases h
  · exact .inr h
namespace R
theorem srtP {K : PySem.W.Frag} {H : Hp} {Q : VK} {a : Addr} {vs : List V} {ps : List (Int × Int)} (h : SqL K H a vs) (hp : Pd H vs ps) (hn : ps.Nodup)
    (q : ∀ ws qs H' p, Pd H' ws qs → qs.Perm ps → qs.Pairwise ltp → Same H H' → H p = none → H' p = some (.lst ws) → Q (.ref p) H') : rSortedPO K [.ref a] H Q := by
  refine ⟨a, vs, kH H, rfl, h, hp.mem, fun ys p srt stb np => ?_⟩
  have pm : ys.Perm vs := stb.perm
  have hy := pd_of (H := H) (vs := ys) fun x hx => hp.mem x (pm.mem_iff.mp hx)
  have pq : (ys.map (kH H)).Perm ps := by
    rw [← hp.keys]
    exact pm.map _
  refine q ys (ys.map (kH H)) _ p (hy.same (same_upd np)) pq ?_ (same_upd np) np upd_same
  have hnd := pq.nodup_iff.mpr hn
  have h2 : (ys.map (kH H)).Pairwise (fun x y => SrtO.lexB y x = false) := List.pairwise_map.mpr srt
  refine List.Pairwise.imp ?_ (h2.and hnd)
  intro x y ⟨h3, h4⟩
  have h5 := SrtO.lexB_no.mp h3
  unfold ltp
  by_cases e1 : x.1 = y.1
  · by_cases e2 : x.2 = y.2
    · exact absurd (Prod.ext e1 e2) h4
    · omega
  · omega
end R
theorem srtPQ {X : Cx} (K : PySem.W.Frag) (h : X.K = K := by rfl) : CallR X (.builtin "sorted") (rSortedPO K) := by
  subst h
  exact cr_sortedPO

/-! ### loops over two fors -/
theorem out_list {K : PySem.W.Frag} {a : Addr} {xs : List V} {F : V → Hp → (Hp → Prop) → Prop} {H0 : Hp} {Qd : Hp → Prop} (Pv : Nat → Hp → Prop) (h0 : Pv 0 H0) (hl : ∀ i H, i ≤ xs.length → Pv i H → SqL K H a xs)
    (hs : ∀ i x H, xs[i]? = some x → Pv i H → F x H (Pv (i + 1))) (hd : ∀ H, Pv xs.length H → Qd H) :
    ∃ W : Nat → Nat → Hp → Prop, (∃ m, W 0 m H0) ∧ ∀ i m H, W i m H → ((Itl K a).stop i H ∧ Qd H) ∨ ((Itl K a).go i H ∧ ∃ Nx : Hp → Prop, (∀ H', Nx H' → ∃ m', m' < m ∧ W (i + 1) m' H') ∧ ∀ x H', (Itl K a).yld i H x H' → F x H' Nx) := by
  refine ⟨fun i m H => m = xs.length - i ∧ i ≤ xs.length ∧ Pv i H, ⟨xs.length, by simp, Nat.zero_le _, h0⟩, ?_⟩
  rintro i m H ⟨rfl, hi, p⟩
  have q := hl i H hi p
  by_cases hlt : i < xs.length
  · refine .inr ⟨⟨xs, xs[i], q, by simp [hlt]⟩, Pv (i + 1), fun H' p' => ⟨xs.length - (i + 1), by omega, rfl, hlt, p'⟩, fun x H' y => ?_⟩
    obtain ⟨e, y⟩ := y
    subst e
    exact hs i x _ (y xs q) p
  · have e : i = xs.length := by omega
    subst e
    exact .inl ⟨⟨xs, q, Nat.le_refl _⟩, hd H p⟩
theorem out_range {lo : Int} {n : Nat} {F : V → Hp → (Hp → Prop) → Prop} {H0 : Hp} {Qd : Hp → Prop} (Pv : Nat → Hp → Prop) (h0 : Pv 0 H0)
    (hs : ∀ i H, i < n → Pv i H → F (.int (lo + (i : Nat))) H (Pv (i + 1))) (hd : ∀ H, Pv n H → Qd H) :
    ∃ W : Nat → Nat → Hp → Prop, (∃ m, W 0 m H0) ∧ ∀ i m H, W i m H → ((Itr lo n).stop i H ∧ Qd H) ∨ ((Itr lo n).go i H ∧ ∃ Nx : Hp → Prop, (∀ H', Nx H' → ∃ m', m' < m ∧ W (i + 1) m' H') ∧ ∀ x H', (Itr lo n).yld i H x H' → F x H' Nx) := by
  refine ⟨fun i m H => m = n - i ∧ i ≤ n ∧ Pv i H, ⟨n, by simp, Nat.zero_le _, h0⟩, ?_⟩
  rintro i m H ⟨rfl, hi, p⟩
  by_cases hlt : i < n
  · refine .inr ⟨hlt, Pv (i + 1), fun H' p' => ⟨n - (i + 1), by omega, rfl, hlt, p'⟩, fun x H' y => ?_⟩
    obtain ⟨e, y⟩ := y
    subst e y
    exact hs i _ hlt p
  · have e : i = n := by omega
    subst e
    exact .inl ⟨Nat.le_refl _, hd H p⟩

/-! ### whole roots -/
section
variable {X : Cx}
theorem cr_isqrt : CallR X (.builtin "math.isqrt") (fun vs H Q => ∃ i : Int, vs = [.int i] ∧ 0 ≤ i ∧ i.natAbs < 2 ^ 13000 ∧ Q (.int ((Float64.isqrt i.toNat : Nat) : Int)) H) := by
  intro pins s σ H vs us Q I r h
  obtain ⟨i, rfl, h0, h1, q⟩ := h
  obtain ⟨u, rfl, t, rfl⟩ := vals1 r
  have hl : i.toNat.log2 < 13000 := PySem.Flt.log2_lt_of (by decide) (by omega)
  exact call_function_meets PySem.W.MGF.kind_isqrt PySem.W.MGF.plain_isqrt PySem.W.MGF.entry_isqrt (PySem.W.MGF.args_isqrt _) (PySem.W.mg_run_isqrt i t (by omega) (by omega) (by omega)).meets ⟨.int _, H, I.tok _, ⟨_, rfl⟩, q⟩
end
def rootI (n : Int) : Int := ((Float64.isqrt n.toNat : Nat) : Int)
theorem rootI_spec {n : Int} (h : 0 ≤ n) : 0 ≤ rootI n ∧ rootI n * rootI n ≤ n ∧ n < (rootI n + 1) * (rootI n + 1) := by
  obtain ⟨k, rfl⟩ := Int.eq_ofNat_of_zero_le h
  have e := Float64.isqrt_spec k
  unfold rootI
  have e2 : Int.toNat (k : Int) = k := rfl
  rw [e2]
  generalize Float64.isqrt k = m at e ⊢
  refine ⟨Int.natCast_nonneg m, ?_, ?_⟩
  · exact_mod_cast e.1
  · exact_mod_cast e.2
theorem rootI_lt {n : Int} {b : Nat} (h : 0 ≤ n) (hb : n.natAbs < 2 ^ b) : (rootI n).natAbs < 2 ^ b := by
  obtain ⟨h0, h1, h2⟩ := rootI_spec h
  have h3 : rootI n ≤ n := by
    by_cases e : rootI n = 0
    · omega
    · have h4 : 1 * rootI n ≤ rootI n * rootI n := Int.mul_le_mul_of_nonneg_right (by omega) h0
      omega
  omega
/-! ### common measures -/
def gI (a b : Int) : Int := ((Nat.gcd a.natAbs b.natAbs : Nat) : Int)
theorem gI_nn (a b : Int) : 0 ≤ gI a b := Int.natCast_nonneg _
theorem gI_lt {a b : Int} {B : Nat} (ha : a.natAbs < B) (hb : b.natAbs < B) : (gI a b).natAbs < B := by
  unfold gI
  rw [Int.natAbs_natCast]
  by_cases h : a.natAbs = 0
  · rw [h, Nat.gcd_zero_left]
    exact hb
  · exact Nat.lt_of_le_of_lt (Nat.gcd_le_left _ (by omega)) ha
def gL (ns : List Int) : Int := ns.foldl gI 0
theorem gL_take {ns : List Int} {i : Nat} {x : Int} (h : ns[i]? = some x) : gL (ns.take (i + 1)) = gI (gL (ns.take i)) x := by
  unfold gL
  rw [List.take_add_one, h, List.foldl_append]
  rfl
/-- one step of the walk of measures: what // and the rest are -/
theorem fd_rest {g r : Int} (h : r ≠ 0) : (g - g.fdiv r * r).natAbs < r.natAbs ∧ (0 < r → 0 ≤ g - g.fdiv r * r) ∧ (r < 0 → g - g.fdiv r * r ≤ 0) := by
  have e : g - g.fdiv r * r = g.fmod r := by
    rw [Int.fmod_def, Int.mul_comm]
  rw [e]
  by_cases hr : 0 < r
  · have h1 := Int.fmod_nonneg_of_pos g hr
    have h2 := Int.fmod_lt_of_pos g hr
    refine ⟨by omega, fun _ => h1, fun _ => by omega⟩
  · have h1 := Int.fmod_nonneg_of_pos (-g) (b := -r) (by omega)
    have h2 := Int.fmod_lt_of_pos (-g) (b := -r) (by omega)
    rw [Int.neg_fmod_neg] at h1 h2
    refine ⟨by omega, fun _ => by omega, fun _ => by omega⟩
theorem gcd_step (g q r : Int) : Nat.gcd r.natAbs (g - q * r).natAbs = Nat.gcd g.natAbs r.natAbs := by
  have e1 : Int.gcd r (g - q * r) = Int.gcd r g := by
    rw [Int.sub_eq_add_neg, ← Int.neg_mul]
    exact Int.gcd_add_mul_right_right ..
  have e2 : Int.gcd r g = Int.gcd g r := Int.gcd_comm r g
  exact e1.trans e2
theorem step_lt {g rest u ru q r B : Nat} (hg : g = q * rest + r) (h : ru * g + u * rest ≤ B) : (u + q * ru) * rest + ru * r ≤ B := by
  have e : (u + q * ru) * rest + ru * r = ru * g + u * rest := by
    rw [hg, Nat.add_mul, Nat.mul_add, Nat.mul_comm q ru, Nat.mul_assoc]
    omega
  omega
/-- the state of bezout's walk -/
def Bz (a b g u v r ru rv : Int) : Prop := u * a + v * b = g ∧ ru * a + rv * b = r ∧ (((Nat.gcd g.natAbs r.natAbs : Nat) : Int) = gI a b ∧ u.natAbs ≤ a.natAbs + 2 * b.natAbs + 1 ∧ v.natAbs ≤ a.natAbs + 2 * b.natAbs + 1) ∧
  ((g = a ∧ r = b ∧ u = 1 ∧ v = 0 ∧ ru = 0 ∧ rv = 1) ∨
    (((0 ≤ g ∧ 0 ≤ r) ∨ (g ≤ 0 ∧ r ≤ 0)) ∧ g.natAbs ≤ b.natAbs ∧ r.natAbs < g.natAbs ∧
      ru.natAbs * g.natAbs + u.natAbs * r.natAbs ≤ a.natAbs + 2 * b.natAbs ∧ rv.natAbs * g.natAbs + v.natAbs * r.natAbs ≤ a.natAbs + 2 * b.natAbs))
theorem same_div {g r : Int} (h : (0 ≤ g ∧ 0 < r) ∨ (g ≤ 0 ∧ r < 0)) : g.natAbs = (g.fdiv r).natAbs * r.natAbs + (g - g.fdiv r * r).natAbs := by
  have hr : r ≠ 0 := by omega
  obtain ⟨h1, h2, h3⟩ := fd_rest (g := g) hr
  have hq : 0 ≤ g.fdiv r := by
    rcases h with ⟨a, b⟩ | ⟨a, b⟩
    · exact Int.fdiv_nonneg a (by omega)
    · rw [← Int.neg_fdiv_neg]
      exact Int.fdiv_nonneg (by omega) (by omega)
  obtain ⟨q, e⟩ := Int.eq_ofNat_of_zero_le hq
  rw [e] at h2 h3 ⊢
  rcases h with ⟨a, b⟩ | ⟨a, b⟩
  · have k := h2 b
    have z : g = (q : Int) * r + (g - (q : Int) * r) := by omega
    obtain ⟨r', rfl⟩ := Int.eq_ofNat_of_zero_le (show 0 ≤ r by omega)
    have e2 : ((q * r' : Nat) : Int) = (q : Int) * (r' : Int) := Int.natCast_mul q r'
    rw [Int.natAbs_natCast, Int.natAbs_natCast]
    rw [← e2] at k ⊢
    omega
  · have k := h3 b
    obtain ⟨r', hr'⟩ := Int.eq_ofNat_of_zero_le (show 0 ≤ -r by omega)
    have er : r = -(r' : Int) := by omega
    subst er
    have e2 : ((q * r' : Nat) : Int) = (q : Int) * (r' : Int) := Int.natCast_mul q r'
    rw [Int.mul_neg, ← e2] at k ⊢
    rw [Int.natAbs_natCast, Int.natAbs_neg, Int.natAbs_natCast]
    omega
theorem abs_sub_mul (u q ru : Int) : (u - q * ru).natAbs ≤ u.natAbs + q.natAbs * ru.natAbs := by
  rw [← Int.natAbs_mul]
  omega
theorem Bz.size {a b g u v r ru rv : Int} (h : Bz a b g u v r ru rv) (hr : r ≠ 0) : (g.fdiv r).natAbs ≤ a.natAbs + b.natAbs + 1 ∧ r.natAbs ≤ b.natAbs ∧ ru.natAbs ≤ a.natAbs + 2 * b.natAbs + 1 ∧ rv.natAbs ≤ a.natAbs + 2 * b.natAbs + 1 := by
  obtain ⟨h1, h2, h3, h4⟩ := h
  obtain ⟨k1, k2, k3⟩ := fd_rest (g := g) hr
  have z2 : (g.fdiv r).natAbs * r.natAbs ≤ g.natAbs + r.natAbs := by
    rw [← Int.natAbs_mul]
    omega
  have z3 : (g.fdiv r).natAbs ≤ g.natAbs + 1 := by
    by_cases z : (g.fdiv r).natAbs ≤ g.natAbs + 1
    · exact z
    · have z4 : (g.natAbs + 2) * r.natAbs ≤ (g.fdiv r).natAbs * r.natAbs := Nat.mul_le_mul_right _ (by omega)
      have z5 : g.natAbs * 1 ≤ g.natAbs * r.natAbs := Nat.mul_le_mul_left _ (by omega)
      rw [Nat.add_mul] at z4
      omega
  rcases h4 with ⟨e1, e2, e3, e4, e5, e6⟩ | ⟨e1, e2, e3, e4, e5⟩
  · rw [e5, e6]
    refine ⟨?_, ?_, ?_, ?_⟩ <;> first | omega | (subst e1 e2; omega)
  · have z4 : ru.natAbs * 1 ≤ ru.natAbs * g.natAbs := Nat.mul_le_mul_left _ (by omega)
    have z5 : rv.natAbs * 1 ≤ rv.natAbs * g.natAbs := Nat.mul_le_mul_left _ (by omega)
    refine ⟨by omega, by omega, by omega, by omega⟩
theorem Bz.step {a b g u v r ru rv : Int} (h : Bz a b g u v r ru rv) (hr : r ≠ 0) : Bz a b r ru rv (g - g.fdiv r * r) (u - g.fdiv r * ru) (v - g.fdiv r * rv) := by
  have sz := h.size hr
  obtain ⟨h1, h2, h3, h4⟩ := h
  obtain ⟨k1, k2, k3⟩ := fd_rest (g := g) hr
  refine ⟨h2, ?_, ⟨by rw [gcd_step]; exact h3.1, sz.2.2⟩, .inr ⟨?_, ?_, k1, ?_, ?_⟩⟩
  · rw [← h1, ← h2]
    generalize (u * a + v * b).fdiv (ru * a + rv * b) = q
    rw [Int.sub_mul, Int.sub_mul, Int.mul_add, Int.mul_assoc, Int.mul_assoc]
    omega
  · by_cases z : 0 < r
    · exact .inl ⟨by omega, k2 z⟩
    · exact .inr ⟨by omega, k3 (by omega)⟩
  · rcases h4 with ⟨e1, e2, _⟩ | ⟨_, e2, e3, _⟩
    · rw [e2]
      omega
    · omega
  · rcases h4 with ⟨e1, e2, e3, e4, e5, e6⟩ | ⟨e1, e2, e3, e4, e5⟩
    · rw [e3, e5, e2]
      simp
      omega
    · refine Nat.le_trans (Nat.add_le_add_right (Nat.mul_le_mul_right _ (abs_sub_mul u (g.fdiv r) ru)) _) (step_lt (same_div ?_) e4)
      omega
  · rcases h4 with ⟨e1, e2, e3, e4, e5, e6⟩ | ⟨e1, e2, e3, e4, e5⟩
    · rw [e4, e6]
      have z := abs_sub_mul 0 (g.fdiv r) 1
      have z2 : (g.fdiv r).natAbs * r.natAbs ≤ g.natAbs + r.natAbs := by
        rw [← Int.natAbs_mul]
        omega
      have z3 := Nat.mul_le_mul_right r.natAbs z
      have z4 : (Int.natAbs 0 + (g.fdiv r).natAbs * Int.natAbs 1) * r.natAbs = (g.fdiv r).natAbs * r.natAbs := by simp
      rw [z4] at z3
      have z5 : Int.natAbs 1 * (g - g.fdiv r * r).natAbs = (g - g.fdiv r * r).natAbs := by simp
      rw [z5]
      subst e1 e2
      omega
    · refine Nat.le_trans (Nat.add_le_add_right (Nat.mul_le_mul_right _ (abs_sub_mul v (g.fdiv r) rv)) _) (step_lt (same_div ?_) e5)
      omega

/-! ### the law's own root -/
theorem rootI_uniq {n r : Int} (h : 0 ≤ n) (h0 : 0 ≤ r) (h1 : r * r ≤ n) (h2 : n < (r + 1) * (r + 1)) : r = rootI n := by
  obtain ⟨k0, k1, k2⟩ := rootI_spec h
  generalize rootI n = s at k0 k1 k2 ⊢
  by_cases a : r < s
  · have z : (r + 1) * (r + 1) ≤ s * s := Int.mul_le_mul (by omega) (by omega) (by omega) (by omega)
    omega
  · by_cases b : s < r
    · have z : (s + 1) * (s + 1) ≤ r * r := Int.mul_le_mul (by omega) (by omega) (by omega) (by omega)
      omega
    · omega
theorem half_step {low high n : Int} {i : Nat} (h : low + 1 < high) (hi : (high - low - 1) * 2 ^ i ≤ n) : ((low + high) / 2 - low - 1) * 2 ^ (i + 1) ≤ n ∧ (high - (low + high) / 2 - 1) * 2 ^ (i + 1) ≤ n ∧ low < (low + high) / 2 ∧ (low + high) / 2 < high := by
  have e : (2 : Int) ^ (i + 1) = 2 * 2 ^ i := by rw [Int.pow_succ, Int.mul_comm]
  have p0 : (0 : Int) < 2 ^ i := Int.pow_pos (by decide)
  rw [e]
  generalize (2 : Int) ^ i = B at hi p0 ⊢
  have m1 : (low + high) / 2 - low - 1 ≤ (high - low - 1) / 2 := by omega
  have m2 : high - (low + high) / 2 - 1 ≤ (high - low - 1) / 2 := by omega
  have m3 : 2 * ((high - low - 1) / 2) ≤ high - low - 1 := by omega
  refine ⟨?_, ?_, by omega, by omega⟩
  · have a1 : ((low + high) / 2 - low - 1) * (2 * B) = (2 * ((low + high) / 2 - low - 1)) * B := by grind
    have a2 : (2 * ((low + high) / 2 - low - 1)) * B ≤ (high - low - 1) * B := Int.mul_le_mul_of_nonneg_right (by omega) (by omega)
    omega
  · have a1 : (high - (low + high) / 2 - 1) * (2 * B) = (2 * (high - (low + high) / 2 - 1)) * B := by grind
    have a2 : (2 * (high - (low + high) / 2 - 1)) * B ≤ (high - low - 1) * B := Int.mul_le_mul_of_nonneg_right (by omega) (by omega)
    omega

/-! ### continued fractions -/
def partI (p q root : Int) : Int := if 0 < q then (p + root).fdiv q else (p + root + 1).fdiv q
def nxt (d root : Int) (s : Int × Int) : Int × Int := (partI s.1 s.2 root * s.2 - s.1, (d - (partI s.1 s.2 root * s.2 - s.1) * (partI s.1 s.2 root * s.2 - s.1)).fdiv s.2)
def cf (d root : Int) (s : Int × Int) : Nat → Int × Int
  | 0 => s
  | k + 1 => nxt d root (cf d root s k)
def cfa (d : Int) (s : Int × Int) (i : Nat) : Int := partI (cf d (rootI d) s i).1 (cf d (rootI d) s i).2 (rootI d)
/-- what the walk of expand wants -/
def ExOk (p q d : Int) (n j : Nat) : Prop := 0 ≤ d ∧ d < 2 ^ 60 ∧ rootI d * rootI d ≠ d ∧ q ≠ 0 ∧ (d - p * p).fmod q = 0 ∧ j < n ∧ n ≤ 100000 ∧ cf d (rootI d) (p, q) n = cf d (rootI d) (p, q) j ∧
  (∀ a b, a < b → b < n → cf d (rootI d) (p, q) a ≠ cf d (rootI d) (p, q) b) ∧ ∀ i, i ≤ n → (cf d (rootI d) (p, q) i).1.natAbs < 2 ^ 60 ∧ (cf d (rootI d) (p, q) i).2.natAbs < 2 ^ 60 ∧ (cf d (rootI d) (p, q) i).2 ≠ 0
def ckey (s : Int × Int) : List Key := [.inl s.1, .inl s.2]
theorem ckey_inj {s t : Int × Int} (h : ckey s = ckey t) : s = t := by
  unfold ckey at h
  injection h with h1 h2
  injection h2 with h2 _
  injection h1 with h1
  injection h2 with h2
  exact Prod.ext h1 h2
def ckv (f : Nat → Int × Int) (n : Nat) : List (List Key × V) := (List.range n).map fun i => (ckey (f i), V.int (i : Int))
theorem ckv_succ (f : Nat → Int × Int) (n : Nat) : ckv f (n + 1) = ckv f n ++ [(ckey (f n), V.int (n : Int))] := by
  unfold ckv
  rw [List.range_succ, List.map_append]
  rfl
theorem ckv_len (f : Nat → Int × Int) (n : Nat) : (ckv f n).length = n := by
  unfold ckv
  rw [List.length_map, List.length_range]
theorem valV_app {κ : Type} [DecidableEq κ] (xs : List (κ × V)) (k : κ) (v : V) (k' : κ) : valV (xs ++ [(k, v)]) k' = (match valV xs k' with | some z => some z | none => if k = k' then some v else none) := by
  unfold valV
  rw [List.find?_append]
  cases h : xs.find? fun kv => decide (kv.1 = k') with
  | some z => rfl
  | none =>
    by_cases e : k = k'
    · simp [e]
    · simp [e]
theorem ckv_none {f : Nat → Int × Int} : ∀ {n : Nat} {s : Int × Int}, (∀ i, i < n → f i ≠ s) → valV (ckv f n) (ckey s) = none
  | 0, _, _ => rfl
  | n + 1, s, h => by
    rw [ckv_succ, valV_app, ckv_none fun i hi => h i (by omega)]
    exact if_neg fun e => h n (by omega) (ckey_inj e)
theorem ckv_some {f : Nat → Int × Int} {s : Int × Int} {j : Nat} (hj : f j = s) : ∀ {n : Nat}, j < n → (∀ i, i < j → f i ≠ s) → valV (ckv f n) (ckey s) = some (.int (j : Int))
  | 0, h, _ => absurd h (by omega)
  | n + 1, h, k => by
    rw [ckv_succ, valV_app]
    by_cases e : j < n
    · rw [ckv_some hj e k]
    · have e1 : j = n := by omega
      subst e1
      rw [ckv_none k]
      exact if_pos (congrArg ckey hj)
theorem ckv_put {f : Nat → Int × Int} {n : Nat} (h : ∀ i, i < n → f i ≠ f n) : putK (ckv f n) (ckey (f n)) (.int (n : Int)) = ckv f (n + 1) := by
  unfold putK
  rw [valV_any, ckv_none h, ckv_succ]
  exact if_neg Bool.false_ne_true
/-! ### reduced pairs -/
structure Red (d root P Q : Int) : Prop where
  q0 : 0 < Q
  p1 : P ≤ root
  lo : root - P < Q
  hi : Q ≤ root + P
  dv : Q ∣ d - P * P
theorem partI_pos {p q root : Int} (h : 0 < q) : partI p q root = (p + root) / q := by
  unfold partI
  rw [if_pos h, Int.fdiv_eq_ediv_of_nonneg _ (by omega)]
theorem nxt_exact {d root P Q : Int} (h : Q ≠ 0) (dv : Q ∣ d - P * P) : (nxt d root (P, Q)).2 * Q = d - (nxt d root (P, Q)).1 * (nxt d root (P, Q)).1 := by
  obtain ⟨c, hc⟩ := dv
  unfold nxt
  show (d - (partI P Q root * Q - P) * (partI P Q root * Q - P)).fdiv Q * Q = d - (partI P Q root * Q - P) * (partI P Q root * Q - P)
  generalize partI P Q root = a
  refine Int.fdiv_mul_cancel_of_fmod_eq_zero (Int.fmod_eq_zero_of_dvd ⟨c - a * a * Q + 2 * a * P, ?_⟩)
  grind
theorem Red.step {d root P Q : Int} (r0 : 0 ≤ root) (h1 : root * root < d) (h2 : d < (root + 1) * (root + 1)) (R : Red d root P Q) : Red d root (nxt d root (P, Q)).1 (nxt d root (P, Q)).2 := by
  have ex := nxt_exact (root := root) (Int.ne_of_gt R.q0) R.dv
  obtain ⟨q0, p1, lo, hi, dv⟩ := R
  have e1 : (nxt d root (P, Q)).1 = (P + root) / Q * Q - P := by
    unfold nxt
    show partI P Q root * Q - P = _
    rw [partI_pos q0]
  generalize (nxt d root (P, Q)).1 = P' at ex e1 ⊢
  generalize (nxt d root (P, Q)).2 = Q' at ex ⊢
  have a1 : (P + root) / Q * Q ≤ P + root := Int.ediv_mul_le _ (by omega)
  have a2 : P + root < (P + root) / Q * Q + Q := by
    have z := Int.lt_ediv_add_one_mul_self (P + root) q0
    rw [Int.add_mul, Int.one_mul] at z
    exact z
  have a3 : 1 ≤ (P + root) / Q := by
    have z : 1 * Q ≤ P + root := by omega
    exact (Int.le_ediv_iff_mul_le q0).mpr z
  have a4 : 1 * Q ≤ (P + root) / Q * Q := Int.mul_le_mul_of_nonneg_right a3 (by omega)
  generalize (P + root) / Q * Q = aQ at a1 a2 a4 e1
  have b1 : P' ≤ root := by omega
  have b2 : root - Q < P' := by omega
  have b3 : -root < P' := by omega
  have b4 : Q ≤ root + P' := by omega
  have c1 : P' * P' ≤ root * root := by
    have z : 0 ≤ (root - P') * (root + P') := Int.mul_nonneg (by omega) (by omega)
    have z2 : (root - P') * (root + P') = root * root - P' * P' := by grind
    omega
  have c2 : 0 < Q' * Q := by omega
  have c3 : 0 < Q' := by
    by_cases z : 0 < Q'
    · exact z
    · have z2 : Q' * Q ≤ 0 * Q := Int.mul_le_mul_of_nonneg_right (by omega) (by omega)
      omega
  refine ⟨c3, b1, ?_, ?_, ?_⟩
  · by_cases z : root - P' < Q'
    · exact z
    · have z2 : Q' * Q ≤ (root - P') * (root + P') := Int.mul_le_mul (by omega) b4 (by omega) (by omega)
      have z3 : (root - P') * (root + P') = root * root - P' * P' := by grind
      omega
  · by_cases z : Q' ≤ root + P'
    · exact z
    · have z2 : (root + P' + 1) * (root - P' + 1) ≤ Q' * Q := Int.mul_le_mul (by omega) (by omega) (by omega) (by omega)
      have z3 : (root + P' + 1) * (root - P' + 1) = (root + 1) * (root + 1) - P' * P' := by grind
      omega
  · exact ⟨Q, by omega⟩
theorem Red.back {d root P Q P2 Q2 : Int} (R : Red d root P Q) (S : Red d root P2 Q2) (r0 : 0 ≤ root) (h1 : root * root < d) (h2 : d < (root + 1) * (root + 1)) (e : nxt d root (P, Q) = nxt d root (P2, Q2)) : P = P2 ∧ Q = Q2 := by
  have ex := nxt_exact (root := root) (Int.ne_of_gt R.q0) R.dv
  have ex2 := nxt_exact (root := root) (Int.ne_of_gt S.q0) S.dv
  have N := R.step r0 h1 h2
  have e1 : (nxt d root (P, Q)).1 = partI P Q root * Q - P := rfl
  have e2 : (nxt d root (P2, Q2)).1 = partI P2 Q2 root * Q2 - P2 := rfl
  rw [← e] at ex2 e2
  have n0 := N.q0
  generalize (nxt d root (P, Q)).1 = P' at ex ex2 e1 e2
  generalize (nxt d root (P, Q)).2 = Q' at ex ex2 n0
  have eq : Q = Q2 := Int.eq_of_mul_eq_mul_left (Int.ne_of_gt n0) (ex.trans ex2.symm)
  subst eq
  refine ⟨?_, rfl⟩
  have l1 := R.lo
  have l2 := S.lo
  have u1 := R.p1
  have u2 := S.p1
  have q0 := R.q0
  generalize partI P Q root = a at e1
  generalize partI P2 Q root = b at e2
  have e3 : (a - b) * Q = P - P2 := by
    rw [Int.sub_mul]
    omega
  by_cases z : a - b ≤ -1
  · have z2 : (a - b) * Q ≤ -1 * Q := Int.mul_le_mul_of_nonneg_right z (by omega)
    omega
  · by_cases z' : 1 ≤ a - b
    · have z2 : 1 * Q ≤ (a - b) * Q := Int.mul_le_mul_of_nonneg_right z' (by omega)
      omega
    · have z2 : a - b = 0 := by omega
      rw [z2, Int.zero_mul] at e3
      omega
/-! ### the root of d: from (0, 1) -/
section
variable {d root : Int}
theorem cf_one (hq : True) : cf d root (0, 1) 1 = (root, d - root * root) := by
  show nxt d root (0, 1) = _
  unfold nxt
  show (partI 0 1 root * 1 - 0, (d - (partI 0 1 root * 1 - 0) * (partI 0 1 root * 1 - 0)).fdiv 1) = _
  have e : partI 0 1 root * 1 - 0 = root := by
    rw [partI_pos (by decide)]
    simp
  rw [e, Int.fdiv_one]
theorem cf_red (r0 : 0 ≤ root) (h1 : root * root < d) (h2 : d < (root + 1) * (root + 1)) : ∀ k, Red d root (cf d root (0, 1) (k + 1)).1 (cf d root (0, 1) (k + 1)).2
  | 0 => by
    rw [cf_one trivial]
    have e : (root + 1) * (root + 1) = root * root + 2 * root + 1 := by grind
    exact ⟨by show 0 < d - root * root; omega, by show root ≤ root; omega, by show root - root < d - root * root; omega, by show d - root * root ≤ root + root; omega, ⟨1, by show d - root * root = (d - root * root) * 1; omega⟩⟩
  | k + 1 => (cf_red r0 h1 h2 k).step r0 h1 h2
theorem cf_exact (r0 : 0 ≤ root) (h1 : root * root < d) (h2 : d < (root + 1) * (root + 1)) : ∀ k, (cf d root (0, 1) (k + 1)).2 * (cf d root (0, 1) k).2 = d - (cf d root (0, 1) (k + 1)).1 * (cf d root (0, 1) (k + 1)).1
  | 0 => by
    rw [cf_one trivial]
    show (d - root * root) * 1 = d - root * root
    omega
  | k + 1 => by
    have R := cf_red r0 h1 h2 k
    exact nxt_exact (P := (cf d root (0, 1) (k + 1)).1) (Q := (cf d root (0, 1) (k + 1)).2) (Int.ne_of_gt R.q0) R.dv
theorem cf_again (l : Nat) (h : (cf d root (0, 1) l).2 = 1) : cf d root (0, 1) (l + 1) = cf d root (0, 1) 1 := by
  rw [cf_one trivial]
  show nxt d root (cf d root (0, 1) l) = _
  unfold nxt
  rw [h]
  generalize (cf d root (0, 1) l).1 = P
  have e : partI P 1 root * 1 - P = root := by
    rw [partI_pos (by decide)]
    simp
    omega
  rw [e, Int.fdiv_one]
theorem cf_shift (l : Nat) (h : (cf d root (0, 1) l).2 = 1) : ∀ k, cf d root (0, 1) (l + (k + 1)) = cf d root (0, 1) (k + 1)
  | 0 => cf_again l h
  | k + 1 => by
    show nxt d root (cf d root (0, 1) (l + (k + 1))) = nxt d root (cf d root (0, 1) (k + 1))
    rw [cf_shift l h k]
theorem cf_unlike (r0 : 0 ≤ root) (h1 : root * root < d) (h2 : d < (root + 1) * (root + 1)) {l : Nat} (hm : ∀ k, 1 ≤ k → k < l → (cf d root (0, 1) k).2 ≠ 1) : ∀ j i, j < i → i ≤ l → cf d root (0, 1) j ≠ cf d root (0, 1) i
  | 0, i, hij, hl, e => by
    obtain ⟨k, rfl⟩ : ∃ k, i = k + 1 := ⟨i - 1, by omega⟩
    have R := cf_red r0 h1 h2 k
    rw [← e] at R
    have a := R.lo
    have b := R.hi
    have a2 : root - 0 < 1 := a
    have b2 : (1 : Int) ≤ root + 0 := b
    omega
  | 1, i, hij, hl, e => by
    obtain ⟨k, rfl⟩ : ∃ k, i = k + 2 := ⟨i - 2, by omega⟩
    have x := cf_exact r0 h1 h2 (k + 1)
    have R := cf_red r0 h1 h2 (k + 1)
    have x2 : (cf d root (0, 1) (k + 2)).2 * (cf d root (0, 1) (k + 1)).2 = d - (cf d root (0, 1) (k + 2)).1 * (cf d root (0, 1) (k + 2)).1 := x
    rw [← e, cf_one trivial] at x2
    have x3 : (d - root * root) * (cf d root (0, 1) (k + 1)).2 = (d - root * root) * 1 := by
      have y : (d - root * root) * (cf d root (0, 1) (k + 1)).2 = d - root * root := x2
      omega
    exact hm (k + 1) (by omega) (by omega) (Int.eq_of_mul_eq_mul_left (by omega) x3)
  | j + 2, i, hij, hl, e => by
    obtain ⟨k, rfl⟩ : ∃ k, i = k + 2 := ⟨i - 2, by omega⟩
    have b := (cf_red r0 h1 h2 j).back (cf_red r0 h1 h2 k) r0 h1 h2 e
    exact cf_unlike r0 h1 h2 hm (j + 1) (k + 1) (by omega) (by omega) (Prod.ext b.1 b.2)
end
/-! ### convergents -/
def cstep (s : (Int × Int) × (Int × Int)) (a : Int) : (Int × Int) × (Int × Int) := (s.2, (a * s.2.1 + s.1.1, a * s.2.2 + s.1.2))
def cst (ns : List Int) : (Int × Int) × (Int × Int) := ns.foldl cstep ((0, 1), (1, 0))
def cvl (ns : List Int) : List (Int × Int) := (List.range ns.length).map fun i => (cst (ns.take (i + 1))).2
theorem cst_take {ns : List Int} {i : Nat} {x : Int} (h : ns[i]? = some x) : cst (ns.take (i + 1)) = cstep (cst (ns.take i)) x := by
  unfold cst
  rw [List.take_add_one, h, List.foldl_append]
  rfl
theorem cvl_take {ns : List Int} {i : Nat} (h : i < ns.length) : cvl (ns.take (i + 1)) = cvl (ns.take i) ++ [(cst (ns.take (i + 1))).2] := by
  unfold cvl
  have e1 : (ns.take (i + 1)).length = i + 1 := by rw [List.length_take]; omega
  have e2 : (ns.take i).length = i := by rw [List.length_take]; omega
  rw [e1, e2, List.range_succ, List.map_append]
  congr 1
  · refine List.map_congr_left fun k hk => ?_
    have hk' : k < i := List.mem_range.mp hk
    rw [List.take_take, List.take_take, Nat.min_eq_left (by omega), Nat.min_eq_left (by omega)]
  · show [(cst ((ns.take (i + 1)).take (i + 1))).2] = _
    rw [List.take_take, Nat.min_self]
inductive Prs (H : Hp) : List Addr → List (Int × Int) → Prop
  | nil : Prs H [] []
  | cons {a : Addr} {p : Int × Int} {as : List Addr} {ps : List (Int × Int)} : H a = some (.tup [.int p.1, .int p.2]) → Prs H as ps → Prs H (a :: as) (p :: ps)
theorem Prs.same {H H' : Hp} {as : List Addr} {ps : List (Int × Int)} (h : Prs H as ps) (s : Same H H') : Prs H' as ps := by
  induction h with
  | nil => exact .nil
  | cons e _ ih => exact .cons (s _ _ e) ih
theorem Prs.mono {H H' : Hp} {as : List Addr} {ps : List (Int × Int)} (h : Prs H as ps) (s : ∀ b xs, H b = some (.tup xs) → H' b = some (.tup xs)) : Prs H' as ps := by
  induction h with
  | nil => exact .nil
  | cons e _ ih => exact .cons (s _ _ e) ih
theorem Prs.snoc {H : Hp} {as : List Addr} {ps : List (Int × Int)} {a : Addr} {p : Int × Int} (h : Prs H as ps) (e : H a = some (.tup [.int p.1, .int p.2])) : Prs H (as ++ [a]) (ps ++ [p]) := by
  induction h with
  | nil => exact .cons e .nil
  | cons e' _ ih => exact .cons e' ih
theorem Prs.len {H : Hp} {as : List Addr} {ps : List (Int × Int)} (h : Prs H as ps) : as.length = ps.length := by
  induction h with
  | nil => rfl
  | cons _ _ ih => rw [List.length_cons, List.length_cons, ih]
def pdI (p : Int × Int) : PyData := .tuple [.int p.1, .int p.2]
theorem Prs.dp {K : PySem.W.Frag} {H : Hp} {as : List Addr} {ps : List (Int × Int)} (h : Prs H as ps) : DpAll K H (as.map V.ref) (ps.map pdI) := by
  induction h with
  | nil => exact .nil
  | cons e _ ih => exact .cons (.tup (SqT.of e) (.cons (.int _) (.cons (.int _) .nil))) ih
theorem lay_prs : ∀ ps : List (Int × Int), PyData.canLayAll0 (ps.map pdI) = true
  | [] => rfl
  | p :: ps => by
    rw [List.map_cons, PyData.canLayAll0, lay_prs ps]
    rfl
theorem depth_prs : ∀ ps : List (Int × Int), PyData.depthAll (ps.map pdI) ≤ 1
  | [] => Nat.zero_le _
  | p :: ps => by
    rw [List.map_cons, PyData.depthAll]
    have h := depth_prs ps
    have e : (pdI p).depth = 1 := by
      unfold pdI
      rw [PyData.depth]
      rfl
    omega
theorem shaped_prs (ps : List (Int × Int)) : SeqAt.shaped (.list (ps.map pdI)) = true := by
  show (PyData.canLay0 (.list (ps.map pdI)) && decide (PyData.depth (.list (ps.map pdI)) ≤ 64)) = true
  rw [Bool.and_eq_true]
  refine ⟨by rw [PyData.canLay0]; exact lay_prs ps, decide_eq_true ?_⟩
  rw [PyData.depth]
  have h := depth_prs ps
  omega
theorem Prs.at {H : Hp} {as : List Addr} {ps : List (Int × Int)} (h : Prs H as ps) : ∀ {i : Nat} {p : Int × Int}, ps[i]? = some p → ∃ a, as[i]? = some a ∧ H a = some (.tup [.int p.1, .int p.2]) := by
  induction h with
  | nil => intro i p e; simp at e
  | @cons a q as ps e _ ih =>
    intro i p e2
    cases i with
    | zero =>
      have e3 : q = p := Option.some.inj e2
      subst e3
      exact ⟨a, rfl, e⟩
    | succ i => exact ih e2
theorem at_end {α : Type} {xs : List α} {v : α} (h : xs[xs.length - 1]? = some v) : atI xs (-1) = some v := by
  have hl : 0 < xs.length := by
    cases xs with
    | nil => cases h
    | cons x r => exact Nat.succ_pos _
  have e : ixN xs.length (-1) = some (xs.length - 1) := by
    unfold ixN
    rw [if_neg (by decide), if_pos (by omega)]
    congr 1
    omega
  unfold atI
  rw [e]
  exact h
/-! ### pell -/
def aL (d : Int) (k : Nat) : List Int := (List.range k).map (cfa d (0, 1))
theorem aL_succ (d : Int) (k : Nat) : aL d (k + 1) = aL d k ++ [cfa d (0, 1) k] := by
  unfold aL
  rw [List.range_succ, List.map_append]
  rfl
theorem aL_len (d : Int) (k : Nat) : (aL d k).length = k := by
  unfold aL
  rw [List.length_map, List.length_range]
theorem aL_at {d : Int} {k i : Nat} (h : i < k) : (aL d k)[i]? = some (cfa d (0, 1) i) := by
  unfold aL
  rw [List.getElem?_map, List.getElem?_range h]
  rfl
theorem cst_aL (d : Int) (k : Nat) : cst (aL d (k + 1)) = cstep (cst (aL d k)) (cfa d (0, 1) k) := by
  unfold cst
  rw [aL_succ, List.foldl_append]
  rfl
def sg (k : Nat) : Int := if k % 2 = 0 then 1 else -1
theorem sg_succ (k : Nat) : sg (k + 1) = -sg k := by
  unfold sg
  by_cases h : k % 2 = 0
  · rw [if_pos h, if_neg (by omega)]
  · rw [if_neg h, if_pos (by omega)]
    rfl
theorem nrm_q (Q1 Q2 P P2 d a R : Int) (h0 : Q1 ≠ 0) (hR : R*Q1 = d - P*P) (hQ2 : Q2*Q1 = d - P2*P2) (hP : P2 = a*Q1 - P) : Q2 = R + a*(P - P2) := by
  have z : (Q2 - (R + a*(P-P2)))*Q1 = 0 := by grind
  rcases Int.mul_eq_zero.mp z with h | h
  · omega
  · exact absurd h h0
theorem nrm_step (a p q e d P P2 Q1 Q2 R p0 q0 : Int) (h0 : Q1 ≠ 0) (h1 : p*p - d*(q*q) = e*Q1) (h2 : p*p0 - d*(q*q0) = -(e*P)) (h3 : p0*p0 - d*(q0*q0) = -(e*R)) (hP : P2 = a*Q1 - P) (hR : R*Q1 = d - P*P) (hQ2 : Q2*Q1 = d - P2*P2) :
    (a*p+p0)*(a*p+p0) - d*((a*q+q0)*(a*q+q0)) = -(e*Q2) ∧ (a*p+p0)*p - d*((a*q+q0)*q) = e*P2 := by
  have hQ : Q2 = R + a*(P - P2) := nrm_q Q1 Q2 P P2 d a R h0 hR hQ2 hP
  clear hQ2 hR h0
  constructor <;> grind
/-- d lies between two squares, and the walk of its root comes to the denominator 1 at l first -/
structure PellOk (d : Int) (l : Nat) : Prop where
  d0 : 0 < d
  d1 : d < 10001
  ns : rootI d * rootI d ≠ d
  l0 : 1 ≤ l
  l1 : l ≤ 40000
  one : (cf d (rootI d) (0, 1) l).2 = 1
  least : ∀ k, 1 ≤ k → k < l → (cf d (rootI d) (0, 1) k).2 ≠ 1
section
variable {d : Int} {l : Nat}
theorem PellOk.sq (h : PellOk d l) : 0 ≤ rootI d ∧ rootI d * rootI d < d ∧ d < (rootI d + 1) * (rootI d + 1) ∧ rootI d ≤ 100 := by
  have h0 := h.d0
  have h1 := h.d1
  have h2 := h.ns
  obtain ⟨a, b, c⟩ := rootI_spec (n := d) (by omega)
  refine ⟨a, by omega, c, ?_⟩
  by_cases z : rootI d ≤ 100
  · exact z
  · have e : 101 * 101 ≤ rootI d * rootI d := Int.mul_le_mul (by omega) (by omega) (by omega) (by omega)
    omega
theorem PellOk.red (h : PellOk d l) (k : Nat) : Red d (rootI d) (cf d (rootI d) (0, 1) (k + 1)).1 (cf d (rootI d) (0, 1) (k + 1)).2 := by
  obtain ⟨a, b, c, e⟩ := h.sq
  exact cf_red a b c k
theorem PellOk.size (h : PellOk d l) (k : Nat) : 0 ≤ (cf d (rootI d) (0, 1) k).1 ∧ (cf d (rootI d) (0, 1) k).1 ≤ 100 ∧ 0 < (cf d (rootI d) (0, 1) k).2 ∧ (cf d (rootI d) (0, 1) k).2 ≤ 200 := by
  obtain ⟨a, b, c, e⟩ := h.sq
  cases k with
  | zero => exact ⟨by show (0 : Int) ≤ 0; omega, by show (0 : Int) ≤ 100; omega, by show (0 : Int) < 1; omega, by show (1 : Int) ≤ 200; omega⟩
  | succ k =>
    have R := h.red k
    have r1 := R.q0
    have r2 := R.p1
    have r3 := R.lo
    have r4 := R.hi
    omega
theorem PellOk.part (h : PellOk d l) (k : Nat) : 0 ≤ cfa d (0, 1) k ∧ cfa d (0, 1) k ≤ 200 := by
  obtain ⟨a, b, c, e⟩ := h.sq
  obtain ⟨s1, s2, s3, s4⟩ := h.size k
  unfold cfa
  rw [partI_pos s3]
  have z := Int.ediv_le_self (a := (cf d (rootI d) (0, 1) k).1 + rootI d) (cf d (rootI d) (0, 1) k).2 (by omega)
  exact ⟨Int.ediv_nonneg (by omega) (by omega), by omega⟩
theorem PellOk.ex (h : PellOk d l) : ExOk 0 1 d (l + 1) 1 := by
  obtain ⟨a, b, c, e⟩ := h.sq
  have h0 := h.d0
  have h1 := h.d1
  have hl := h.l0
  have hl1 := h.l1
  refine ⟨by omega, by show d < 1152921504606846976; omega, h.ns, by decide, ?_, by omega, by omega, cf_again l h.one, fun i j hij hj => cf_unlike a b c h.least i j hij (by omega), fun i _ => ?_⟩
  · exact Int.fmod_one _
  · obtain ⟨s1, s2, s3, s4⟩ := h.size i
    exact ⟨by show _ < 1152921504606846976; omega, by show _ < 1152921504606846976; omega, by omega⟩
theorem PellOk.period (h : PellOk d l) : ∀ k, cf d (rootI d) (0, 1) (k + 1) = cf d (rootI d) (0, 1) (k % l + 1) := by
  intro k
  have hl := h.l0
  induction k using Nat.strongRecOn with
  | _ k ih =>
    by_cases hk : k < l
    · rw [Nat.mod_eq_of_lt hk]
    · have e := cf_shift l h.one (k - l)
      have e2 : l + (k - l + 1) = k + 1 := by omega
      rw [e2] at e
      rw [e, ih (k - l) (by omega)]
      have e3 : k % l = (k - l) % l := Nat.mod_eq_sub_mod (by omega)
      rw [e3]
theorem PellOk.nrm (h : PellOk d l) : ∀ k, (cst (aL d k)).2.1 * (cst (aL d k)).2.1 - d * ((cst (aL d k)).2.2 * (cst (aL d k)).2.2) = sg k * (cf d (rootI d) (0, 1) k).2 ∧ (cst (aL d k)).2.1 * (cst (aL d k)).1.1 - d * ((cst (aL d k)).2.2 * (cst (aL d k)).1.2) = -(sg k * (cf d (rootI d) (0, 1) k).1) ∧
    ∃ R, (cst (aL d k)).1.1 * (cst (aL d k)).1.1 - d * ((cst (aL d k)).1.2 * (cst (aL d k)).1.2) = -(sg k * R) ∧ R * (cf d (rootI d) (0, 1) k).2 = d - (cf d (rootI d) (0, 1) k).1 * (cf d (rootI d) (0, 1) k).1
  | 0 => ⟨by show (1 : Int) * 1 - d * (0 * 0) = 1 * 1; omega, by show (1 : Int) * 0 - d * (0 * 1) = -(1 * 0); omega, d, by show (0 : Int) * 0 - d * (1 * 1) = -(1 * d); omega, by show d * 1 = d - 0 * 0; omega⟩
  | k + 1 => by
    obtain ⟨h1, h2, R, h3, h4⟩ := h.nrm k
    obtain ⟨a, b, c, e⟩ := h.sq
    have x := cf_exact a b c k
    obtain ⟨s1, s2, s3, s4⟩ := h.size k
    have hP : (cf d (rootI d) (0, 1) (k + 1)).1 = cfa d (0, 1) k * (cf d (rootI d) (0, 1) k).2 - (cf d (rootI d) (0, 1) k).1 := rfl
    obtain ⟨n1, n2⟩ := nrm_step _ _ _ _ _ _ _ _ _ _ _ _ (by omega) h1 h2 h3 hP h4 x
    rw [cst_aL, sg_succ]
    refine ⟨?_, ?_, (cf d (rootI d) (0, 1) k).2, ?_, ?_⟩
    · rw [Int.neg_mul]
      exact n1
    · rw [Int.neg_mul, Int.neg_neg]
      exact n2
    · rw [Int.neg_mul, Int.neg_neg]
      exact h1
    · rw [Int.mul_comm]
      exact x
theorem PellOk.wide (h : PellOk d l) : ∀ k, (cst (aL d k)).1.1.natAbs ≤ 2 ^ (8 * k) ∧ (cst (aL d k)).1.2.natAbs ≤ 2 ^ (8 * k) ∧ (cst (aL d k)).2.1.natAbs ≤ 2 ^ (8 * k) ∧ (cst (aL d k)).2.2.natAbs ≤ 2 ^ (8 * k)
  | 0 => by
    show Int.natAbs 0 ≤ 1 ∧ Int.natAbs 1 ≤ 1 ∧ Int.natAbs 1 ≤ 1 ∧ Int.natAbs 0 ≤ 1
    decide
  | k + 1 => by
    obtain ⟨h1, h2, h3, h4⟩ := h.wide k
    obtain ⟨a0, a1⟩ := h.part k
    rw [cst_aL]
    have e : (2 : Nat) ^ (8 * (k + 1)) = 2 ^ (8 * k) * 256 := by
      rw [Nat.mul_add, Nat.pow_add]
    rw [e]
    have st : ∀ x y : Int, x.natAbs ≤ 2 ^ (8 * k) → y.natAbs ≤ 2 ^ (8 * k) → (cfa d (0, 1) k * x + y).natAbs ≤ 2 ^ (8 * k) * 256 := by
      intro x y hx hy
      have z1 : (cfa d (0, 1) k * x).natAbs = (cfa d (0, 1) k).natAbs * x.natAbs := Int.natAbs_mul _ _
      have z2 : (cfa d (0, 1) k).natAbs * x.natAbs ≤ 200 * 2 ^ (8 * k) := Nat.mul_le_mul (by omega) hx
      generalize (2 : Nat) ^ (8 * k) = B at hx hy z2 ⊢
      omega
    exact ⟨by show (cst (aL d k)).2.1.natAbs ≤ _; omega, by show (cst (aL d k)).2.2.natAbs ≤ _; omega, st _ _ h3 h1, st _ _ h4 h2⟩
/-- how many parts pell takes -/
def pellN (l : Nat) : Nat := if l % 2 = 1 then 2 * l else l
theorem PellOk.hit (h : PellOk d l) {k : Nat} (hk : k < pellN l) : (cst (aL d (k + 1))).2.1 * (cst (aL d (k + 1))).2.1 - d * ((cst (aL d (k + 1))).2.2 * (cst (aL d (k + 1))).2.2) = 1 ↔ k + 1 = pellN l := by
  rw [(h.nrm (k + 1)).1]
  obtain ⟨s1, s2, s3, s4⟩ := h.size (k + 1)
  have hl := h.l0
  have per := h.period k
  have q1 : (cf d (rootI d) (0, 1) (k + 1)).2 = 1 ↔ (k + 1) % l = 0 := by
    by_cases z : k % l + 1 < l
    · have lm := h.least (k % l + 1) (by omega) z
      rw [← per] at lm
      have e : (k + 1) % l = k % l + 1 := by
        rw [Nat.add_mod, Nat.mod_eq_of_lt (show 1 < l by omega), Nat.mod_eq_of_lt z]
      exact ⟨fun y => absurd y lm, fun y => by omega⟩
    · have zl := Nat.mod_lt k (show 0 < l by omega)
      have e2 : k % l + 1 = l := by omega
      have e : (k + 1) % l = 0 := by
        have e3 := Nat.div_add_mod k l
        have e4 : k + 1 = l * (k / l + 1) := by
          rw [Nat.mul_add]
          omega
        rw [e4]
        exact Nat.mul_mod_right _ _
      rw [per, e2]
      exact ⟨fun _ => e, fun _ => h.one⟩
  have sgn : ∀ n, sg n = 1 ∨ sg n = -1 := fun n => by
    unfold sg
    split
    · exact .inl rfl
    · exact .inr rfl
  have s5 : sg (k + 1) * (cf d (rootI d) (0, 1) (k + 1)).2 = 1 ↔ (k + 1) % 2 = 0 ∧ (k + 1) % l = 0 := by
    rw [← q1]
    unfold sg
    by_cases z : (k + 1) % 2 = 0
    · rw [if_pos z]
      exact ⟨fun y => ⟨z, by omega⟩, fun y => by omega⟩
    · rw [if_neg z]
      exact ⟨fun y => by omega, fun y => absurd y.1 z⟩
  rw [s5]
  unfold pellN at hk ⊢
  by_cases odd : l % 2 = 1
  · rw [if_pos odd] at hk ⊢
    constructor
    · rintro ⟨y1, y2⟩
      obtain ⟨c, hc⟩ := Nat.dvd_of_mod_eq_zero y2
      have c1 : c ≠ 1 := fun z => by
        rw [z] at hc
        omega
      have c2 : c ≠ 0 := fun z => by
        rw [z] at hc
        omega
      have c3 : l * 2 ≤ l * c := Nat.mul_le_mul_left _ (by omega)
      omega
    · intro y
      rw [y]
      exact ⟨by omega, Nat.mod_eq_zero_of_dvd ⟨2, by omega⟩⟩
  · rw [if_neg odd] at hk ⊢
    constructor
    · rintro ⟨y1, y2⟩
      obtain ⟨c, hc⟩ := Nat.dvd_of_mod_eq_zero y2
      have c2 : c ≠ 0 := fun z => by
        rw [z] at hc
        omega
      have c3 : l * 1 ≤ l * c := Nat.mul_le_mul_left _ (by omega)
      omega
    · intro y
      rw [y]
      exact ⟨by omega, Nat.mod_self l⟩
end

/-! ### Nat -/
section
variable {X : Cx}
theorem modNN : OpR X (binaryOp .Mod) (fun x y H Q => ∃ n m : Nat, x = .int (n : Int) ∧ y = .int (m : Int) ∧ 0 < m ∧ Q (.int ((n % m : Nat) : Int)) H) := by
  intro pins s σ H x y v u Q I rx ry h
  obtain ⟨n, m, rfl, rfl, c, q⟩ := h
  rw [Int.natCast_emod] at q
  exact op_mod pins s σ H _ _ v u Q I rx ry ⟨_, _, rfl, rfl, by show (0 : Int) < (m : Int); omega, q⟩
theorem mulNN : OpR X (binaryOp .Mult) (fun x y H Q => ∃ n m : Nat, x = .int (n : Int) ∧ y = .int (m : Int) ∧ (n < 2 ^ 64 ∨ m < 2 ^ 64) ∧ Q (.int ((n * m : Nat) : Int)) H) := by
  intro pins s σ H x y v u Q I rx ry h
  obtain ⟨n, m, rfl, rfl, c, q⟩ := h
  rw [Int.natCast_mul] at q
  refine op_mul pins s σ H _ _ v u Q I rx ry ⟨_, _, rfl, rfl, ?_, q⟩
  rcases c with c | c
  · have c' : n < 18446744073709551616 := c
    exact .inl ⟨by omega, by show (n : Int) < 18446744073709551616; omega⟩
  · have c' : m < 18446744073709551616 := c
    exact .inr ⟨by omega, by show (m : Int) < 18446744073709551616; omega⟩
theorem divNN : OpR X (binaryOp .FloorDiv) (fun x y H Q => ∃ n m : Nat, x = .int (n : Int) ∧ y = .int (m : Int) ∧ (0 < m ∧ m < 2 ^ 9000) ∧ Q (.int ((n / m : Nat) : Int)) H) := by
  intro pins s σ H x y v u Q I rx ry h
  obtain ⟨n, m, rfl, rfl, ⟨c1, c2⟩, q⟩ := h
  rw [Int.natCast_ediv] at q
  refine op_fdivW pins s σ H _ _ v u Q I rx ry ⟨_, _, rfl, rfl, ⟨by omega, ?_⟩, q⟩
  rw [Int.natAbs_natCast]
  exact PySem.Flt.log2_lt_of (by decide) c2
end
theorem div9 {m : Nat} (h0 : 0 < m) (h : m < 2 ^ 64) : 0 < m ∧ m < 2 ^ 9000 := ⟨h0, pow_up h (by decide)⟩
theorem powI (b n : Nat) : ((b : Int) ^ n) = ((b ^ n : Nat) : Int) := (Int.natCast_pow b n).symm
/-! ### mirrors -/
def pmL (m : Nat) : Nat → Nat → Nat → Nat → Nat
  | 0, r, _, _ => r
  | f + 1, r, s, k => bif k.beq 0 then r else pmL m f (bif (k % 2).beq 1 then r * s % m else r) (s * s % m) (k / 2)
/-- b ^ e % m, by halving -/
def pmod (b e m : Nat) : Nat := pmL m 64 1 (b % m) e
def toL (p : Nat) : Nat → Nat → Nat → Nat × Nat
  | 0, n, k => (k, n)
  | f + 1, n, k => bif (n % p).beq 0 then toL p f (n / p) (k + 1) else (k, n)
def takenOut (n p : Nat) : Nat × Nat := toL p 64 n 0
def behL (n : Nat) : Nat → Nat → Bool
  | 0, _ => false
  | k + 1, x => bif x.beq (n - 1) then true else behL n k (x * x % n)
def behaves (n base many odd : Nat) : Bool := bif (pmod base odd n).beq 1 then true else behL n many (pmod base odd n)
def wits : List Nat := [2, 3, 5, 7, 11, 13, 17, 19, 23, 29, 31, 37]
/-- n by the first of these that measures it: it is that one -/
def byW (n : Nat) : List Nat → Option Bool
  | [] => none
  | p :: r => bif (n % p).beq 0 then some (n.beq p) else byW n r
def isPrimeM (n : Nat) : Bool := bif n.ble 1 then false else match byW n wits with
  | some b => b
  | none => wits.all fun b => behaves n b (takenOut (n - 1) 2).1 (takenOut (n - 1) 2).2
def leastL (n : Nat) : Nat → Nat → Option Nat
  | 0, _ => none
  | f + 1, x => bif (n % x).beq 0 then some x else leastL n f (x + 2)
def leastM (n start : Nat) : Option Nat := bif (n % 2).beq 0 then some 2 else leastL n n (bif start.ble 3 then 3 else start)
/-- the prime parts, as the program finds them: none where its search would not end in this many steps -/
def ppL : Nat → Nat → Nat → Option (List (Nat × Nat))
  | 0, _, _ => none
  | f + 1, rest, p => bif rest.ble 1 then some [] else
    match (bif isPrimeM rest then some rest else leastM rest p) with
    | none => none
    | some q => match ppL f (takenOut rest q).2 q with
      | none => none
      | some l => some ((q, (takenOut rest q).1) :: l)
def ppM (n : Nat) : Option (List (Nat × Nat)) := ppL 70 n 2
theorem bifT {α : Type} {b : Bool} (h : b = true) (x y : α) : (bif b then x else y) = x := by rw [h]; rfl
theorem bifF {α : Type} {b : Bool} (h : b = false) (x y : α) : (bif b then x else y) = y := by rw [h]; rfl
theorem beqT {a b : Nat} (h : a = b) : a.beq b = true := by rw [h]; exact Nat.beq_refl b
theorem beqF {a b : Nat} (h : a ≠ b) : a.beq b = false := by
  cases e : a.beq b with
  | false => rfl
  | true => exact absurd (Nat.eq_of_beq_eq_true e) h
theorem bleT {a b : Nat} (h : a ≤ b) : a.ble b = true := Nat.ble_eq_true_of_le h
theorem bleF {a b : Nat} (h : ¬ a ≤ b) : a.ble b = false := by
  cases e : a.ble b with
  | false => rfl
  | true => exact absurd (Nat.le_of_ble_eq_true e) h
theorem toL_pos {p : Nat} (hp : 2 ≤ p) : ∀ {f n k : Nat}, 0 < n → 0 < (toL p f n k).2 ∧ (toL p f n k).2 ≤ n
  | 0, n, k, h => ⟨h, Nat.le_refl _⟩
  | f + 1, n, k, h => by
    unfold toL
    by_cases e : n % p = 0
    · rw [bifT (beqT e)]
      have h1 : p ≤ n := Nat.le_of_dvd h (Nat.dvd_of_mod_eq_zero e)
      have h2 : 0 < n / p := Nat.div_pos h1 (by omega)
      obtain ⟨a, b⟩ := toL_pos hp (f := f) (k := k + 1) h2
      exact ⟨a, Nat.le_trans b (Nat.div_le_self _ _)⟩
    · rw [bifF (beqF e)]
      exact ⟨h, Nat.le_refl _⟩
theorem pmL_lt {m : Nat} (h : 0 < m) : ∀ {f r s k : Nat}, r < m → pmL m f r s k < m
  | 0, r, s, k, hr => hr
  | f + 1, r, s, k, hr => by
    unfold pmL
    cases k.beq 0 with
    | true => exact hr
    | false =>
      refine pmL_lt h ?_
      cases (k % 2).beq 1 with
      | true => exact Nat.mod_lt _ h
      | false => exact hr
theorem pmod_lt {b e m : Nat} (h : 1 < m) : pmod b e m < m := pmL_lt (by omega) h
def nats (l : List (Nat × Nat)) : List (Int × Int) := l.map fun p => ((p.1 : Int), (p.2 : Int))

/-! ### forms -/
def dsc (a b c : Int) : Int := b * b - 4 * a * c
def fA (a b c p r : Int) : Int := a * p * p + b * p * r + c * r * r
def fB (a b c p q r s : Int) : Int := 2 * a * p * q + b * (p * s + q * r) + 2 * c * r * s
theorem dsc_act (a b c p q r s : Int) : dsc (fA a b c p r) (fB a b c p q r s) (fA a b c q s) = dsc a b c * ((p * s - q * r) * (p * s - q * r)) := by
  unfold dsc fA fB
  grind
theorem act_mid (a b c p q r s : Int) : a * (p + q) * (p + q) + b * (p + q) * (r + s) + c * (r + s) * (r + s) - (a * p * p + b * p * r + c * r * r) - (a * q * q + b * q * s + c * s * s) = 2 * a * p * q + b * (p * s + q * r) + 2 * c * r * s := by
  grind
def kindS (d : Int) : Str := if d < 0 then "definite" else if d = 0 then "flat" else if rootI d * rootI d = d then "split" else "indefinite"
/-- the forms that the law draws -/
def sortS (ind : Bool) : Str := if ind then "indefinite" else "definite"
def FormOk (ind : Bool) (a b c : Int) : Prop := a.natAbs ≤ 5 ∧ b.natAbs ≤ 6 ∧ c.natAbs ≤ 5 ∧ kindS (dsc a b c) = sortS ind
theorem kindS_ind {d : Int} (h : kindS d = "indefinite") : 0 < d ∧ rootI d * rootI d ≠ d := by
  unfold kindS at h
  by_cases z : d < 0
  · rw [if_pos z] at h
    exact absurd h (by decide)
  · rw [if_neg z] at h
    by_cases y : d = 0
    · rw [if_pos y] at h
      exact absurd h (by decide)
    · rw [if_neg y] at h
      by_cases x : rootI d * rootI d = d
      · rw [if_pos x] at h
        exact absurd h (by decide)
      · exact ⟨by omega, x⟩
theorem kindS_def {d : Int} (h : kindS d = "definite") : d < 0 := by
  unfold kindS at h
  by_cases z : d < 0
  · exact z
  · rw [if_neg z] at h
    by_cases y : d = 0
    · rw [if_pos y] at h
      exact absurd h (by decide)
    · rw [if_neg y] at h
      by_cases x : rootI d * rootI d = d
      · rw [if_pos x] at h
        exact absurd h (by decide)
      · rw [if_neg x] at h
        exact absurd h (by decide)
theorem uLawRoot0 {n : Int} (h : 0 ≤ n) : 0 ≤ rootI n ∧ rootI n ≤ n := by
  obtain ⟨a, b, c⟩ := rootI_spec h
  refine ⟨a, ?_⟩
  by_cases z : rootI n = 0
  · omega
  · have := Int.mul_le_mul_of_nonneg_right (show 1 ≤ rootI n by omega) a
    omega
theorem mul3 {x y z : Int} {X Y Z : Nat} (h1 : x.natAbs ≤ X) (h2 : y.natAbs ≤ Y) (h3 : z.natAbs ≤ Z) : (x * y * z).natAbs ≤ X * Y * Z := by
  rw [Int.natAbs_mul, Int.natAbs_mul]
  exact Nat.mul_le_mul (Nat.mul_le_mul h1 h2) h3
theorem act_size {a b c p q r s : Int} {C M : Nat} (ha : a.natAbs ≤ C) (hb : b.natAbs ≤ C) (hc : c.natAbs ≤ C) (hp : p.natAbs ≤ M) (hq : q.natAbs ≤ M) (hr : r.natAbs ≤ M) (hs : s.natAbs ≤ M) :
    (fA a b c p r).natAbs ≤ 3 * (C * M * M) ∧ (fB a b c p q r s).natAbs ≤ 6 * (C * M * M) ∧ (fA a b c q s).natAbs ≤ 3 * (C * M * M) := by
  have t1 := mul3 ha hp hp
  have t2 := mul3 hb hp hr
  have t3 := mul3 hc hr hr
  have t4 := mul3 ha hp hq
  have t5 := mul3 hb hp hs
  have t6 := mul3 hb hq hr
  have t7 := mul3 hc hr hs
  have t8 := mul3 ha hq hq
  have t9 := mul3 hb hq hs
  have t0 := mul3 hc hs hs
  have e : fB a b c p q r s = 2 * (a * p * q) + b * p * s + b * q * r + 2 * (c * r * s) := by
    unfold fB
    grind
  rw [e]
  unfold fA
  generalize C * M * M = Z at *
  omega
theorem dsc_size {a b c : Int} {n : Int} (n0 : 0 ≤ n) (ha : (a.natAbs : Int) ≤ n) (hb : (b.natAbs : Int) ≤ n) (hc : (c.natAbs : Int) ≤ n) : -(5 * (n * n)) ≤ dsc a b c ∧ dsc a b c ≤ 5 * (n * n) := by
  have e1 : ((b * b).natAbs : Int) ≤ n * n := by
    rw [Int.natAbs_mul, Int.natCast_mul]
    exact Int.mul_le_mul hb hb (by omega) n0
  have e2 : ((a * c).natAbs : Int) ≤ n * n := by
    rw [Int.natAbs_mul, Int.natCast_mul]
    exact Int.mul_le_mul ha hc (by omega) n0
  unfold dsc
  rw [Int.mul_assoc]
  generalize b * b = x at *
  generalize a * c = y at *
  generalize n * n = z at *
  omega

/-! ### split forms -/
/-- a direction: (x, y) without its measure, the sign set -/
def Dir (x y x' y' : Int) : Prop := (∃ g, g ≠ 0 ∧ x = g * x' ∧ y = g * y') ∧ gI x' y' = 1 ∧ (0 < x' ∨ (x' = 0 ∧ y' = 1))
/-- (x, y) is where one of the two lines of the form lies, with the middle number k behind it -/
def Ln (a b c k x y : Int) : Prop := 2 * a * x + b * y = -(k * y) ∧ b * x + 2 * c * y = k * x
theorem Ln.zero {a b c k x y : Int} (h : Ln a b c k x y) : fA a b c x y = 0 := by
  obtain ⟨h1, h2⟩ := h
  have e : 2 * fA a b c x y = x * (2 * a * x + b * y) + y * (b * x + 2 * c * y) := by
    unfold fA
    grind
  rw [h1, h2] at e
  have : x * -(k * y) + y * (k * x) = 0 := by grind
  omega
theorem Ln.mid {a b c k x y u v : Int} (h : Ln a b c k x y) (hd : u * x + v * y = 1) : fB a b c x (-v) y u = k := by
  obtain ⟨h1, h2⟩ := h
  have e : fB a b c x (-v) y u = -v * (2 * a * x + b * y) + u * (b * x + 2 * c * y) := by
    unfold fB
    grind
  rw [e, h1, h2]
  have : -v * -(k * y) + u * (k * x) = k * (u * x + v * y) := by grind
  rw [this, hd, Int.mul_one]
theorem Ln.of {a b c k g x y : Int} (hg : g ≠ 0) (h : Ln a b c k (g * x) (g * y)) : Ln a b c k x y := by
  obtain ⟨h1, h2⟩ := h
  constructor
  · refine Int.eq_of_mul_eq_mul_left hg ?_
    have e1 : g * (2 * a * x + b * y) = 2 * a * (g * x) + b * (g * y) := by grind
    have e2 : g * -(k * y) = -(k * (g * y)) := by grind
    rw [e1, e2]
    exact h1
  · refine Int.eq_of_mul_eq_mul_left hg ?_
    have e1 : g * (b * x + 2 * c * y) = b * (g * x) + 2 * c * (g * y) := by grind
    have e2 : g * (k * x) = k * (g * x) := by grind
    rw [e1, e2]
    exact h2
/-- the canonical split form is one -/
theorem split_one {k c c' p q r s : Int} (k0 : 0 < k) (hd : p * s - q * r = 1) (h1 : 0 ≤ c) (h2 : c < k) (h3 : 0 ≤ c') (h4 : c' < k) (ea : 0 = fA 0 k c p r) (eb : k = fB 0 k c p q r s) (ec : c' = fA 0 k c q s) : c = c' := by
  unfold fA at ea ec
  unfold fB at eb
  have e1 : r * (k * p + c * r) = 0 := by
    have : 0 * p * p + k * p * r + c * r * r = r * (k * p + c * r) := by grind
    omega
  rcases Int.mul_eq_zero.mp e1 with h | h
  · subst h
    have ps : p * s = 1 := by omega
    have hs : s.natAbs = 1 := by
      have h : p.natAbs * s.natAbs = 1 := by
        rw [← Int.natAbs_mul, ps]
        rfl
      exact Nat.dvd_one.mp ⟨p.natAbs, by rw [Nat.mul_comm]; exact h.symm⟩
    have s2 : s * s = 1 := by
      rcases Int.natAbs_eq s with h3 | h3 <;> rw [h3, hs] <;> rfl
    have e2 : c' = k * (q * s) + c := by
      have : 0 * q * q + k * q * s + c * s * s = k * (q * s) + c * (s * s) := by grind
      rw [s2] at this
      omega
    generalize q * s = t at e2
    have : t = 0 := by
      rcases Int.lt_trichotomy t 0 with h | h | h
      · have := Int.mul_le_mul_of_nonneg_left (show t ≤ -1 by omega) (show 0 ≤ k by omega)
        omega
      · exact h
      · have := Int.mul_le_mul_of_nonneg_left (show 1 ≤ t by omega) (show 0 ≤ k by omega)
        omega
    subst this
    omega
  · exfalso
    have e2 : 2 * 0 * p * q + k * (p * s + q * r) + 2 * c * r * s = k * (q * r - p * s) + 2 * s * (k * p + c * r) := by grind
    rw [h, show q * r - p * s = -1 by omega] at e2
    omega
theorem gL_two (x y : Int) : gL [x, y] = ((Nat.gcd x.natAbs y.natAbs : Nat) : Int) := by
  unfold gL
  simp [gI]
theorem dir_of {x y G g : Int} (h : x ≠ 0 ∨ y ≠ 0) (hG : G = ((Nat.gcd x.natAbs y.natAbs : Nat) : Int)) (hg : g = if x < 0 ∨ (x = 0 ∧ y < 0) then -G else G) : g ≠ 0 ∧ Dir x y (x.fdiv g) (y.fdiv g) ∧ (x.fdiv g).natAbs ≤ x.natAbs ∧ (y.fdiv g).natAbs ≤ y.natAbs := by
  have hp : 0 < Nat.gcd x.natAbs y.natAbs := by
    rcases h with h | h
    · exact Nat.gcd_pos_of_pos_left _ (by omega)
    · exact Nat.gcd_pos_of_pos_right _ (by omega)
  have g0 : g ≠ 0 := by
    rw [hg]
    split <;> omega
  have ga : g.natAbs = Nat.gcd x.natAbs y.natAbs := by
    rw [hg, hG]
    split <;> omega
  have dx : g ∣ x := Int.natAbs_dvd_natAbs.mp (by rw [ga]; exact Nat.gcd_dvd_left _ _)
  have dy : g ∣ y := Int.natAbs_dvd_natAbs.mp (by rw [ga]; exact Nat.gcd_dvd_right _ _)
  obtain ⟨x', hx⟩ := dx
  obtain ⟨y', hy⟩ := dy
  have ex : x.fdiv g = x' := by rw [hx, Int.mul_fdiv_cancel_left _ g0]
  have ey : y.fdiv g = y' := by rw [hy, Int.mul_fdiv_cancel_left _ g0]
  rw [ex, ey]
  have co : Nat.gcd x'.natAbs y'.natAbs = 1 := by
    have e : Nat.gcd x.natAbs y.natAbs = Nat.gcd x.natAbs y.natAbs * Nat.gcd x'.natAbs y'.natAbs := by
      conv => lhs; rw [hx, hy, Int.natAbs_mul, Int.natAbs_mul, Nat.gcd_mul_left, ga]
    exact (Nat.eq_of_mul_eq_mul_left hp (by rw [Nat.mul_one]; exact e)).symm
  have l1 : x'.natAbs ≤ x.natAbs := by
    rw [hx, Int.natAbs_mul]
    exact Nat.le_mul_of_pos_left _ (by omega)
  have l2 : y'.natAbs ≤ y.natAbs := by
    rw [hy, Int.natAbs_mul]
    exact Nat.le_mul_of_pos_left _ (by omega)
  refine ⟨g0, ⟨⟨g, g0, hx, hy⟩, by unfold gI; rw [co]; rfl, ?_⟩, l1, l2⟩
  have G0 : 0 < G := by omega
  by_cases z : x < 0 ∨ (x = 0 ∧ y < 0)
  · rw [if_pos z] at hg
    rcases z with z | ⟨z1, z2⟩
    · left
      rcases Int.lt_trichotomy x' 0 with k | k | k
      · have := Int.mul_pos_of_neg_of_neg (show g < 0 by omega) k
        omega
      · subst k
        omega
      · exact k
    · right
      have x0 : x' = 0 := by
        rw [z1] at hx
        exact (Int.mul_eq_zero.mp hx.symm).resolve_left g0
      subst x0
      refine ⟨rfl, ?_⟩
      have y1 : y'.natAbs = 1 := by
        have := co
        simp at this
        exact this
      rcases Int.lt_trichotomy y' 0 with k | k | k
      · have := Int.mul_pos_of_neg_of_neg (show g < 0 by omega) k
        omega
      · subst k
        omega
      · omega
  · rw [if_neg z] at hg
    by_cases w : x = 0
    · right
      have x0 : x' = 0 := by
        rw [w] at hx
        exact (Int.mul_eq_zero.mp hx.symm).resolve_left g0
      subst x0
      refine ⟨rfl, ?_⟩
      have y1 : y'.natAbs = 1 := by
        have := co
        simp at this
        exact this
      rcases Int.lt_trichotomy y' 0 with k | k | k
      · have := Int.mul_neg_of_pos_of_neg (show 0 < g by omega) k
        omega
      · subst k
        omega
      · omega
    · left
      rcases Int.lt_trichotomy x' 0 with k | k | k
      · have := Int.mul_neg_of_pos_of_neg (show 0 < g by omega) k
        omega
      · subst k
        omega
      · exact k
theorem ln0 (b c : Int) : Ln 0 b c (-b) c (-b) := by
  constructor
  · grind
  · grind
theorem ln1 {a b c k : Int} (hd : b * b - 4 * a * c = k * k) : Ln a b c (-k) (k - b) (2 * a) ∧ Ln a b c (- -k) (-k - b) (2 * a) := by
  have e : b * (k - b) + 2 * c * (2 * a) = k * b - (b * b - 4 * a * c) := by grind
  have e2 : b * (-k - b) + 2 * c * (2 * a) = -(k * b) - (b * b - 4 * a * c) := by grind
  refine ⟨⟨?_, ?_⟩, ⟨?_, ?_⟩⟩
  · grind
  · rw [e, hd]
    grind
  · grind
  · rw [e2, hd]
    grind
/-- a split form of the root k -/
structure SF (k a b c : Int) : Prop where
  d : dsc a b c = k * k
  k0 : 0 < k
theorem SF.root {k a b c : Int} (F : SF k a b c) : rootI (b * b - 4 * a * c) = k := by
  have d : b * b - 4 * a * c = k * k := F.d
  have k0 := F.k0
  have e : k * k < (k + 1) * (k + 1) := by
    have : (k + 1) * (k + 1) = k * k + 2 * k + 1 := by grind
    omega
  rw [d]
  exact (rootI_uniq (Int.mul_nonneg (by omega) (by omega)) (by omega) (Int.le_refl _) e).symm
/-- a line: its point, the sign of the middle number behind it -/
structure Pt2 (a b c k x y : Int) : Prop where
  g : gI x y = 1
  s : 0 < x ∨ (x = 0 ∧ y = 1)
  l : Ln a b c k x y
  b1 : x.natAbs ≤ 35184372088832
  b2 : y.natAbs ≤ 35184372088832
theorem iteVV {i j : Nat} {σ : L2.St} {H : Hp} {Q : VK} {c : Prop} [Decidable c] {v : V} (h1 : c → σ[i]? = some (some v)) (h2 : ¬ c → σ[j]? = some (some v)) (q : Q v H) : if decide c = true then tVar i σ H Q else tVar j σ H Q := by
  by_cases h : c
  · rw [if_pos (decide_eq_true h)]
    exact ⟨v, h1 h, q⟩
  · rw [if_neg (fun z => h (of_decide_eq_true z))]
    exact ⟨v, h2 h, q⟩
/-- what canonical_split gives -/
structure CS (k a b c c' p q r s : Int) : Prop where
  c0 : 0 ≤ c'
  c1 : c' < k
  det : p * s - q * r = 1
  ea : 0 = fA a b c p r
  eb : k = fB a b c p q r s
  ec : c' = fA a b c q s
theorem upd_seqT {K : PySem.W.Frag} {H : Hp} {D a : Addr} {ys zs xs : List V} (hD : H D = some (.lst ys)) (h : SqT K H a xs) : SqT K (upd H D (.lst zs)) a xs := by
  rcases h with (h | ⟨o, h⟩) | h
  · refine .inl (.inl ((upd_ne ?_).trans h))
    rintro rfl
    rw [hD] at h
    cases h
  · refine .inl (.inr ⟨o, (upd_ne ?_).trans h⟩)
    rintro rfl
    rw [hD] at h
    cases h
  · exact .inr h
theorem cs_of {k a b c x y u v : Int} (k0 : 0 < k) (d : u * x + v * y = 1) (l : Ln a b c k x y) : CS k a b c (fA a b c (-v) u % k) (x * 1 + -v * 0) (x * -((fA a b c (-v) u).fdiv k) + -v * 1) (y * 1 + u * 0) (y * -((fA a b c (-v) u).fdiv k) + u * 1) := by
  have z := l.zero
  have m := l.mid d
  have e := Int.mul_ediv_add_emod (fA a b c (-v) u) k
  rw [← Int.fdiv_eq_ediv_of_nonneg _ (by omega)] at e
  generalize hn : (fA a b c (-v) u).fdiv k = n at *
  refine ⟨Int.emod_nonneg _ (by omega), Int.emod_lt_of_pos _ k0, ?_, ?_, ?_, ?_⟩
  · grind
  · rw [show x * 1 + -v * 0 = x by omega, show y * 1 + u * 0 = y by omega, z]
  · have e3 : fB a b c (x * 1 + -v * 0) (x * -n + -v * 1) (y * 1 + u * 0) (y * -n + u * 1) = 2 * -n * fA a b c x y + fB a b c x (-v) y u := by
      unfold fA fB
      grind
    rw [e3, z, m]
    omega
  · have e3 : fA a b c (x * -n + -v * 1) (y * -n + u * 1) = n * n * fA a b c x y + -n * fB a b c x (-v) y u + fA a b c (-v) u := by
      unfold fA fB
      grind
    rw [e3, z, m]
    have : -n * k = -(k * n) := by grind
    omega

/-! ### flat forms -/
structure FL (a b c g p q : Int) : Prop where
  ea : a = g * (p * p)
  eb : b = 2 * (g * (p * q))
  ec : c = g * (q * q)
  co : gI p q = 1
  sg : 0 < p ∨ (p = 0 ∧ q = 1)
  g0 : g ≠ 0
theorem gL_three (x y z : Int) : gL [x, y, z] = ((Nat.gcd (Nat.gcd x.natAbs y.natAbs) z.natAbs : Nat) : Int) := by
  unfold gL
  simp [gI]
theorem FL.content {a b c g p q : Int} (h : FL a b c g p q) : gL [a, b, c] = (g.natAbs : Int) := by
  obtain ⟨ea, eb, ec, co, sg, g0⟩ := h
  rw [gL_three]
  have e1 : a.natAbs = g.natAbs * (p.natAbs * p.natAbs) := by rw [ea, Int.natAbs_mul, Int.natAbs_mul]
  have e2 : b.natAbs = g.natAbs * (2 * (p.natAbs * q.natAbs)) := by
    rw [eb, Int.natAbs_mul, Int.natAbs_mul, Int.natAbs_mul]
    show 2 * (g.natAbs * (p.natAbs * q.natAbs)) = _
    ac_rfl
  have e3 : c.natAbs = g.natAbs * (q.natAbs * q.natAbs) := by rw [ec, Int.natAbs_mul, Int.natAbs_mul]
  have co2 : Nat.Coprime p.natAbs q.natAbs := by
    have : ((Nat.gcd p.natAbs q.natAbs : Nat) : Int) = 1 := co
    show Nat.gcd p.natAbs q.natAbs = 1
    omega
  have c2 : Nat.Coprime (p.natAbs * p.natAbs) (q.natAbs * q.natAbs) := Nat.Coprime.mul_left (Nat.Coprime.mul_right co2 co2) (Nat.Coprime.mul_right co2 co2)
  have c3 : Nat.gcd (Nat.gcd (p.natAbs * p.natAbs) (2 * (p.natAbs * q.natAbs))) (q.natAbs * q.natAbs) = 1 := by
    refine Nat.dvd_one.mp ?_
    rw [← c2]
    exact Nat.dvd_gcd (Nat.dvd_trans (Nat.gcd_dvd_left _ _) (Nat.gcd_dvd_left _ _)) (Nat.gcd_dvd_right _ _)
  rw [e1, e2, e3, Nat.gcd_mul_left, Nat.gcd_mul_left, c3, Nat.mul_one]
theorem FL.of {a b c g P Q : Int} (g0 : g ≠ 0) (h : P ≠ 0 ∨ Q ≠ 0) (ea : a = g * (P * P)) (eb : b = 2 * (g * (P * Q))) (ec : c = g * (Q * Q)) : ∃ g' p q, FL a b c g' p q := by
  obtain ⟨h0, ⟨⟨k, k0, e1, e2⟩, co, sg⟩, _, _⟩ := dir_of (x := P) (y := Q) (g := if P < 0 ∨ (P = 0 ∧ Q < 0) then -((Nat.gcd P.natAbs Q.natAbs : Nat) : Int) else ((Nat.gcd P.natAbs Q.natAbs : Nat) : Int)) h rfl rfl
  generalize P.fdiv _ = p at *
  generalize Q.fdiv _ = q at *
  refine ⟨g * (k * k), p, q, ?_, ?_, ?_, co, sg, ?_⟩
  · rw [ea, e1]
    grind
  · rw [eb, e1, e2]
    grind
  · rw [ec, e2]
    grind
  · intro z
    rcases Int.mul_eq_zero.mp z with w | w
    · exact g0 w
    · exact k0 ((Int.mul_eq_zero.mp w).elim id id)
def FlatR (a b c g p q : Int) : Prop := (a = 0 ∧ b = 0 ∧ c = 0 ∧ g = 0 ∧ p = 1 ∧ q = 0) ∨ FL a b c g p q
theorem em_step {a b i B : Nat} (hb : b ≠ 0) (h : (i = 0 ∧ a * b * 2 < B) ∨ (b ≤ a ∧ a * b * 2 ^ i < B)) : a % b ≤ b ∧ b * (a % b) * 2 ^ (i + 1) < B := by
  have h1 : a % b < b := Nat.mod_lt _ (by omega)
  refine ⟨by omega, ?_⟩
  rcases h with ⟨rfl, h⟩ | ⟨hl, h⟩
  · have h2 : b * (a % b) ≤ b * a := Nat.mul_le_mul_left _ (Nat.mod_le _ _)
    rw [Nat.mul_comm b a] at h2
    have e : (2 : Nat) ^ (0 + 1) = 2 := rfl
    rw [e]
    omega
  · have h2 : 2 * (a % b) ≤ a := by
      have h3 := Nat.div_add_mod a b
      have h4 : 1 ≤ a / b := Nat.div_pos hl (by omega)
      have h5 : b * 1 ≤ b * (a / b) := Nat.mul_le_mul_left _ h4
      omega
    have h3 : b * (2 * (a % b)) ≤ b * a := Nat.mul_le_mul_left _ h2
    have e : b * (a % b) * 2 ^ (i + 1) = b * (2 * (a % b)) * 2 ^ i := by
      rw [Nat.pow_succ]
      ac_rfl
    rw [e]
    refine Nat.lt_of_le_of_lt (Nat.mul_le_mul_right _ h3) ?_
    rw [Nat.mul_comm b a]
    exact h

theorem em_end5 {a b G B : Nat} (hG : Nat.gcd a b = G) (h : (5000 = 0 ∧ a * b * 2 < B) ∨ (b ≤ a ∧ a * b * 2 ^ 5000 < B)) (hB : B ≤ 2 ^ 5000) : a = G := by
  rcases h with ⟨h, _⟩ | ⟨hl, h⟩
  · cases h
  · have h1 : a * b = 0 := by
      by_cases z : a * b = 0
      · exact z
      · have h2 : 1 * 2 ^ 5000 ≤ a * b * 2 ^ 5000 := Nat.mul_le_mul_right _ (by omega)
        rw [Nat.one_mul] at h2
        omega
    have hb : b = 0 := by
      rcases Nat.mul_eq_zero.mp h1 with z | z
      · omega
      · exact z
    rw [hb, Nat.gcd_zero_right] at hG
    exact hG

/-! ### products of prime parts -/
def pwL (p k : Nat) : List Int := (List.range (k + 1)).map fun j => ((p ^ j : Nat) : Int)
def prdS (f : List Int) (pk : Nat × Nat) : List Int := f.flatMap fun g => (pwL pk.1 pk.2).map fun q => g * q
def prdL (l : List (Nat × Nat)) : List Int := l.foldl prdS [1]
theorem prdL_snoc (l : List (Nat × Nat)) (x : Nat × Nat) : prdL (l ++ [x]) = prdS (prdL l) x := by
  unfold prdL
  rw [List.foldl_append]
  rfl
theorem pwL_len (p k : Nat) : (pwL p k).length = k + 1 := by
  unfold pwL
  rw [List.length_map, List.length_range]
theorem pwL_succ (p k : Nat) : pwL p (k + 1) = pwL p k ++ [((p ^ (k + 1) : Nat) : Int)] := by
  unfold pwL
  rw [List.range_succ, List.map_append]
  rfl
theorem prdS_len (f : List Int) (pk : Nat × Nat) : (prdS f pk).length = f.length * (pk.2 + 1) := by
  unfold prdS
  rw [List.length_flatMap]
  induction f with
  | nil => simp
  | cons a f ih =>
    rw [List.map_cons, List.sum_cons, ih, List.length_map, pwL_len, List.length_cons, Nat.succ_mul]
    omega
theorem rgI_pw (p k : Nat) : ((rgI 0 ((k : Int) + 1).toNat).filter fun _ => true).map (fun x : Int => ((p ^ x.toNat : Nat) : Int)) = pwL p k := by
  rw [List.filter_eq_self.mpr (fun _ _ => rfl)]
  unfold rgI pwL
  rw [List.map_map, show ((k : Int) + 1).toNat = k + 1 by omega]
  refine List.map_congr_left fun t _ => ?_
  show ((p ^ (0 + (t : Int)).toNat : Nat) : Int) = ((p ^ t : Nat) : Int)
  rw [show (0 + (t : Int)).toNat = t by omega]
/-- small enough to be made -/
structure PrdOk (l : List (Nat × Nat)) : Prop where
  p : ∀ x ∈ l, x.1 < 2 ^ 60 ∧ x.2 < 900
  len : ∀ i, (prdL (l.take i)).length ≤ 100000
  bd : ∀ i, ∀ g ∈ prdL (l.take i), Bd 60 g

/-! ### where a split form has a value -/
/-- the measures of n, those below 0 behind the others -/
def msL (l : List (Nat × Nat)) : List Int := prdL l ++ (prdL l).map fun g => -g
structure MsOk (N : Nat) (l : List (Nat × Nat)) : Prop where
  pp : ppM N = some l
  ok : PrdOk l
  nd : (prdL l).Nodup
  mem : ∀ g, g ∈ prdL l ↔ 0 < g ∧ g ∣ (N : Int)
  len : (prdL l).length ≤ 40000
theorem MsOk.ms {n : Int} {l : List (Nat × Nat)} (h : MsOk n.natAbs l) (n0 : n ≠ 0) : (msL l).Nodup ∧ ∀ g, g ∈ msL l ↔ g ∣ n := by
  have hm : ∀ g, g ∈ prdL l ↔ 0 < g ∧ g ∣ n := fun g => (h.mem g).trans (and_congr_right fun _ => Int.dvd_natAbs)
  constructor
  · unfold msL
    refine List.nodup_append.mpr ⟨h.nd, ?_, ?_⟩
    · exact List.pairwise_map.mpr (h.nd.imp fun e k => e (by omega))
    · intro a ha b hb e
      obtain ⟨c, hc, rfl⟩ := List.mem_map.mp hb
      have h1 := (hm a).mp ha
      have h2 := (hm c).mp hc
      omega
  · intro g
    unfold msL
    rw [List.mem_append, List.mem_map]
    constructor
    · rintro (h1 | ⟨c, hc, rfl⟩)
      · exact ((hm g).mp h1).2
      · exact Int.neg_dvd.mpr ((hm c).mp hc).2
    · intro hd
      have g0 : g ≠ 0 := by
        rintro rfl
        exact n0 (Int.zero_dvd.mp hd)
      rcases Int.lt_or_gt_of_ne g0 with k | k
      · exact .inr ⟨-g, (hm _).mpr ⟨by omega, Int.neg_dvd.mpr hd⟩, by omega⟩
      · exact .inl ((hm g).mpr ⟨k, hd⟩)
def spT (n k c : Int) (y : Int) : Bool := decide ((n.fdiv y - c * y) % k = 0)
def spP (n k c p q r s : Int) (y : Int) : Int × Int := (p * (n.fdiv y - c * y).fdiv k + q * y, r * (n.fdiv y - c * y).fdiv k + s * y)
def spL (n k c p q r s : Int) (ms : List Int) : List (Int × Int) := (ms.filter (spT n k c)).map (spP n k c p q r s)
theorem cs_val {k a b c c' p q r s X Y : Int} (C : CS k a b c c' p q r s) : fA a b c (p * X + q * Y) (r * X + s * Y) = Y * (k * X + c' * Y) := by
  have e : fA a b c (p * X + q * Y) (r * X + s * Y) = X * X * fA a b c p r + X * Y * fB a b c p q r s + Y * Y * fA a b c q s := by
    unfold fA fB
    grind
  rw [e, ← C.ea, ← C.eb, ← C.ec]
  grind
theorem sp_mem {n k a b c c' p q r s : Int} {ms : List Int} (k0 : 0 < k) (n0 : n ≠ 0) (C : CS k a b c c' p q r s) (hm : ∀ g, g ∈ ms ↔ g ∣ n) (v : Int × Int) : v ∈ spL n k c' p q r s ms ↔ fA a b c v.1 v.2 = n := by
  unfold spL
  rw [List.mem_map]
  constructor
  · rintro ⟨y, hy, rfl⟩
    obtain ⟨h1, h2⟩ := List.mem_filter.mp hy
    have hd := (hm y).mp h1
    have h3 := of_decide_eq_true h2
    unfold spP
    rw [cs_val C]
    obtain ⟨m, hmn⟩ := hd
    have y0 : y ≠ 0 := by
      rintro rfl
      omega
    have e1 : n.fdiv y = m := by rw [hmn, Int.mul_fdiv_cancel_left _ y0]
    rw [e1] at h3 ⊢
    have e2 : k * (m - c' * y).fdiv k = m - c' * y := by
      have := Int.mul_ediv_add_emod (m - c' * y) k
      rw [Int.fdiv_eq_ediv_of_nonneg _ (by omega)]
      omega
    rw [e2, hmn]
    congr 1
    omega
  · intro h
    have hd := C.det
    generalize hX : s * v.1 - q * v.2 = X
    generalize hY : -r * v.1 + p * v.2 = Y
    have v1 : v.1 = p * X + q * Y := by
      rw [← hX, ← hY]
      have : p * (s * v.1 - q * v.2) + q * (-r * v.1 + p * v.2) = (p * s - q * r) * v.1 := by grind
      rw [this, hd]
      omega
    have v2 : v.2 = r * X + s * Y := by
      rw [← hX, ← hY]
      have : r * (s * v.1 - q * v.2) + s * (-r * v.1 + p * v.2) = (p * s - q * r) * v.2 := by grind
      rw [this, hd]
      omega
    rw [v1, v2, cs_val C] at h
    have y0 : Y ≠ 0 := by
      rintro rfl
      omega
    have e1 : n.fdiv Y = k * X + c' * Y := by rw [← h, Int.mul_fdiv_cancel_left _ y0]
    have e2 : n.fdiv Y - c' * Y = k * X := by omega
    refine ⟨Y, List.mem_filter.mpr ⟨(hm Y).mpr ⟨_, h.symm⟩, decide_eq_true ?_⟩, ?_⟩
    · rw [e2]
      exact Int.mul_emod_right k X
    · unfold spP
      rw [e2, Int.mul_fdiv_cancel_left _ (by omega)]
      exact Prod.ext v1.symm v2.symm
theorem sp_nodup {n k a b c c' p q r s : Int} {ms : List Int} (C : CS k a b c c' p q r s) (nd : ms.Nodup) : (spL n k c' p q r s ms).Nodup := by
  unfold spL
  refine List.pairwise_map.mpr (List.Pairwise.imp ?_ (nd.filter _))
  intro y z hne e
  refine hne ?_
  have h1 := congrArg Prod.fst e
  have h2 := congrArg Prod.snd e
  unfold spP at h1 h2
  dsimp only at h1 h2
  generalize (n.fdiv y - c' * y).fdiv k = A at *
  generalize (n.fdiv z - c' * z).fdiv k = B at *
  have hd := C.det
  have i1 : -r * (p * A + q * y) + p * (r * A + s * y) = (p * s - q * r) * y := by grind
  have i2 : -r * (p * B + q * z) + p * (r * B + s * z) = (p * s - q * r) * z := by grind
  rw [h1, h2, i2, hd] at i1
  omega

theorem lin_0 (b c x y : Int) : 1 * (0 * x * x + b * x * y + c * y * y) = (0 * x + 1 * y) * (b * x + c * y) := by grind
theorem lin_w {a b k : Int} : 2 * a * (b - k) - (b + k) * (2 * a) = a * (-4 * k) := by grind
theorem lin_v {a b c k x y : Int} (h : b * b - 4 * a * c = k * k) : 4 * a * fA a b c x y = (2 * a * x + (b + k) * y) * (2 * a * x + (b - k) * y) := by
  unfold fA
  have : (2 * a * x + (b + k) * y) * (2 * a * x + (b - k) * y) = 4 * a * a * x * x + 4 * a * b * x * y + (b * b - k * k) * y * y := by grind
  rw [this, ← h]
  grind

/-! ### the measures of the numbers up to 400 -/
def msB (N : Nat) : Bool := match ppM N with
  | none => false
  | some l => (l.all fun x => x.1.blt 1000 && x.2.blt 20) && ((List.range (l.length + 1)).all fun i => (prdL (l.take i)).length.blt 1000 && (prdL (l.take i)).all fun g => g.natAbs.blt 1000) && decide (prdL l).Nodup &&
    ((prdL l).all fun g => decide (0 < g) && (N % g.natAbs).beq 0) && ((List.range (N + 1)).all fun d => d.beq 0 || !(N % d).beq 0 || (prdL l).contains (d : Int))
def msT (lo : Nat) : Bool := (List.range 50).all fun i => (lo + i).beq 0 || msB (lo + i)
theorem msT_0 : msT 0 = true := by decide +kernel
theorem msT_1 : msT 50 = true := by decide +kernel
theorem msT_2 : msT 100 = true := by decide +kernel
theorem msT_3 : msT 150 = true := by decide +kernel
theorem msT_4 : msT 200 = true := by decide +kernel
theorem msT_5 : msT 250 = true := by decide +kernel
theorem msT_6 : msT 300 = true := by decide +kernel
theorem msT_7 : msT 350 = true := by decide +kernel
theorem msT_8 : msB 400 = true := by decide +kernel
theorem msT_at {lo N : Nat} (h : msT lo = true) (h0 : 0 < N) (h1 : lo ≤ N) (h2 : N < lo + 50) : msB N = true := by
  have a := List.all_eq_true.mp h (N - lo) (List.mem_range.mpr (by omega))
  rw [show lo + (N - lo) = N by omega, Bool.or_eq_true] at a
  exact a.resolve_left (fun k => by have := Nat.eq_of_beq_eq_true k; omega)
theorem ms_tab {N : Nat} (h0 : 0 < N) (h1 : N ≤ 400) : msB N = true := by
  by_cases a0 : N < 50
  · exact msT_at msT_0 h0 (by omega) (by omega)
  by_cases a1 : N < 100
  · exact msT_at msT_1 h0 (by omega) (by omega)
  by_cases a2 : N < 150
  · exact msT_at msT_2 h0 (by omega) (by omega)
  by_cases a3 : N < 200
  · exact msT_at msT_3 h0 (by omega) (by omega)
  by_cases a4 : N < 250
  · exact msT_at msT_4 h0 (by omega) (by omega)
  by_cases a5 : N < 300
  · exact msT_at msT_5 h0 (by omega) (by omega)
  by_cases a6 : N < 350
  · exact msT_at msT_6 h0 (by omega) (by omega)
  by_cases a7 : N < 400
  · exact msT_at msT_7 h0 (by omega) (by omega)
  have : N = 400 := by omega
  rw [this]
  exact msT_8
theorem ms_ok {N : Nat} (h0 : 0 < N) (h1 : N ≤ 400) : ∃ l, MsOk N l := by
  have h := ms_tab h0 h1
  unfold msB at h
  cases hp : ppM N with
  | none =>
    rw [hp] at h
    cases h
  | some l =>
    rw [hp] at h
    dsimp only at h
    rw [Bool.and_eq_true, Bool.and_eq_true, Bool.and_eq_true, Bool.and_eq_true] at h
    obtain ⟨⟨⟨⟨c1, c2⟩, c3⟩, c4⟩, c5⟩ := h
    have key : ∀ i, (prdL (l.take i)).length < 1000 ∧ ∀ g ∈ prdL (l.take i), g.natAbs < 1000 := by
      have k : ∀ i, i ≤ l.length → (prdL (l.take i)).length < 1000 ∧ ∀ g ∈ prdL (l.take i), g.natAbs < 1000 := by
        intro i hi
        have a := List.all_eq_true.mp c2 i (List.mem_range.mpr (by omega))
        rw [Bool.and_eq_true] at a
        refine ⟨Nat.le_of_ble_eq_true a.1, fun g hg => ?_⟩
        exact Nat.le_of_ble_eq_true (List.all_eq_true.mp a.2 g hg)
      intro i
      by_cases hi : i ≤ l.length
      · exact k i hi
      · have := k l.length (Nat.le_refl _)
        rw [List.take_length] at this
        rw [List.take_of_length_le (by omega)]
        exact this
    have kl := key l.length
    rw [List.take_length] at kl
    refine ⟨l, hp, ⟨fun x hx => ?_, fun i => by have := (key i).1; omega, fun i g hg => Bd.om (by have := (key i).2 g hg; omega)⟩, of_decide_eq_true c3, fun g => ⟨fun hg => ?_, fun ⟨g0, gd⟩ => ?_⟩, by omega⟩
    · have a := List.all_eq_true.mp c1 x hx
      rw [Bool.and_eq_true] at a
      have a1 : x.1 < 1000 := Nat.le_of_ble_eq_true a.1
      have a2 : x.2 < 20 := Nat.le_of_ble_eq_true a.2
      exact ⟨Nat.lt_of_lt_of_le a1 (by decide), by omega⟩
    · have a := List.all_eq_true.mp c4 g hg
      rw [Bool.and_eq_true] at a
      have a1 := of_decide_eq_true a.1
      have a2 := Nat.eq_of_beq_eq_true a.2
      refine ⟨a1, Int.natAbs_dvd_natAbs.mp ?_⟩
      rw [Int.natAbs_natCast]
      exact Nat.dvd_of_mod_eq_zero a2
    · have gd2 := Int.natAbs_dvd_natAbs.mpr gd
      rw [Int.natAbs_natCast] at gd2
      have gl := Nat.le_of_dvd h0 gd2
      have a := List.all_eq_true.mp c5 g.natAbs (List.mem_range.mpr (by omega))
      rw [Bool.or_eq_true, Bool.or_eq_true] at a
      rcases a with (a | a) | a
      · have := Nat.eq_of_beq_eq_true a
        omega
      · rw [Nat.mod_eq_zero_of_dvd gd2] at a
        exact absurd a (by decide)
      · rw [List.contains_iff_mem] at a
        rw [show g = (g.natAbs : Int) by omega]
        exact a
section
variable {P : Program} {w : World} {K : PySem.W.Frag} {mg : Str → Option Value} {base : Heap} {fa : Nat → Addr} {fd : Nat → FuncData}
set_option hygiene false
local macro_rules | `(tactic| clean_wf) => `(tactic| (repeat' (first   | with_reducible apply R.var   | with_reducible apply R.gsE   | ((with_reducible apply R.gsN); (focus exact rfl))   | with_reducible apply R.lenS   | ((with_reducible apply R.lenB); exact rfl)   | ((with_reducible apply R.isEq); exact rfl)   | with_reducible apply R.op   | with_reducible apply R.i2   | with_reducible apply R.i0   | with_reducible apply R.con   | with_reducible apply R.cons   | with_reducible apply R.nil   | with_reducible apply R.gcons   | with_reducible apply R.gname   | ((with_reducible apply R.ixT); (focus ((repeat' (first | with_reducible assumption | with_reducible apply hU | ((with_reducible apply SqT.of); with_reducible assumption) | ((with_reducible apply same_seqT); with_reducible assumption) | ((with_reducible apply kp_seqT); with_reducible assumption) | ((with_reducible apply Dw.same); with_reducible assumption))); done)); exact rfl)   | ((with_reducible apply R.ixL); (focus ((repeat' (first | with_reducible assumption | ((with_reducible apply SqL.of); with_reducible assumption) | ((with_reducible apply Same.seq); with_reducible assumption) | ((with_reducible apply Kp.seqL); with_reducible assumption) | ((with_reducible apply fresh_ne); with_reducible assumption) | ((with_reducible apply Dw.same); with_reducible assumption))); done)); exact rfl)   | with_reducible assumption   | with_reducible apply Bd.mulW   | with_reducible apply Bd.mul   | with_reducible apply Bd.add   | with_reducible apply Bd.sub   | ((with_reducible apply Bd.l8); exact eq_true (by decide))   | ((with_reducible apply Bd.lit); exact eq_true (by decide))   | with_reducible apply Bd.neg   | with_reducible apply Bd.div   | with_reducible apply Bd.abs   | with_reducible apply Bd.mod   | with_reducible apply Bd.fdiv   | ((with_reducible apply Bd.om); omega)   | ((with_reducible apply R.isLe); first | decide | omega)   | with_reducible apply R.un   | with_reducible apply R.u1   | with_reducible apply R.tup   | with_reducible apply R.lst   | with_reducible apply R.call   | with_reducible apply R.callB   | with_reducible apply R.gtup   | with_reducible apply R.gnil   | with_reducible apply R.seq   | with_reducible apply R.asg   | with_reducible apply R.ret   | with_reducible apply R.brk   | with_reducible apply R.cont   | with_reducible apply R.next   | with_reducible apply R.drop   | with_reducible apply R.par   | with_reducible apply R.par2   | with_reducible apply R.ifs   | with_reducible apply R.tif   | with_reducible apply R.test   | with_reducible apply R.tb'   | with_reducible apply R.isbl   | with_reducible apply R.cmp   | with_reducible apply R.t2i   | with_reducible apply R.intp   | with_reducible apply R.and   | with_reducible apply R.or   | with_reducible apply R.not   | with_reducible apply R.andV   | with_reducible apply R.orV   | with_reducible apply R.notV   | with_reducible apply R.chain   | with_reducible apply R.tupL   | with_reducible apply R.lstL   | with_reducible apply R.cat   | with_reducible apply R.absI   | with_reducible apply R.intI   | with_reducible apply R.intB   | with_reducible apply R.eqS   | with_reducible apply R.eqBl   | with_reducible apply R.neBl   | with_reducible apply R.sl   | with_reducible apply R.noPart   | with_reducible apply R.part   | with_reducible apply R.isInt   | with_reducible apply R.slL   | with_reducible apply R.isiT   | with_reducible apply R.isiLst   | with_reducible apply R.nwT   | with_reducible apply R.nwL   | ((with_reducible apply R.mt); intro HN tn sn nn ht)   | ((with_reducible apply R.ml); intro HN tn sn nn ht)   | ((with_reducible apply R.isiTupS); focus ((repeat' (first | with_reducible assumption | with_reducible apply hU | ((with_reducible apply SqT.of); with_reducible assumption) | ((with_reducible apply same_seqT); with_reducible assumption) | ((with_reducible apply kp_seqT); with_reducible assumption) | ((with_reducible apply Dw.same); with_reducible assumption))); done))   | ((with_reducible apply R.ne4); focus ((repeat' (first | with_reducible assumption | with_reducible apply hU | ((with_reducible apply SqT.of); with_reducible assumption) | ((with_reducible apply same_seqT); with_reducible assumption) | ((with_reducible apply kp_seqT); with_reducible assumption) | ((with_reducible apply Dw.same); with_reducible assumption))); done))   | ((with_reducible apply R.ne3); focus ((repeat' (first | with_reducible assumption | with_reducible apply hU | ((with_reducible apply SqT.of); with_reducible assumption) | ((with_reducible apply same_seqT); with_reducible assumption) | ((with_reducible apply kp_seqT); with_reducible assumption) | ((with_reducible apply Dw.same); with_reducible assumption))); done))   | ((with_reducible apply R.ne2); focus ((repeat' (first | with_reducible assumption | with_reducible apply hU | ((with_reducible apply SqT.of); with_reducible assumption) | ((with_reducible apply same_seqT); with_reducible assumption) | ((with_reducible apply kp_seqT); with_reducible assumption) | ((with_reducible apply Dw.same); with_reducible assumption))); done))   | ((with_reducible apply R.eq4); focus ((repeat' (first | with_reducible assumption | with_reducible apply hU | ((with_reducible apply SqT.of); with_reducible assumption) | ((with_reducible apply same_seqT); with_reducible assumption) | ((with_reducible apply kp_seqT); with_reducible assumption) | ((with_reducible apply Dw.same); with_reducible assumption))); done))   | ((with_reducible apply R.eq3); focus ((repeat' (first | with_reducible assumption | with_reducible apply hU | ((with_reducible apply SqT.of); with_reducible assumption) | ((with_reducible apply same_seqT); with_reducible assumption) | ((with_reducible apply kp_seqT); with_reducible assumption) | ((with_reducible apply Dw.same); with_reducible assumption))); done))   | ((with_reducible apply R.eq2); focus ((repeat' (first | with_reducible assumption | with_reducible apply hU | ((with_reducible apply SqT.of); with_reducible assumption) | ((with_reducible apply same_seqT); with_reducible assumption) | ((with_reducible apply kp_seqT); with_reducible assumption) | ((with_reducible apply Dw.same); with_reducible assumption))); done))   | with_reducible apply uLawNext   | with_reducible apply uLawChange   | with_reducible apply uMultiply   | with_reducible apply uApply   | with_reducible apply uLawMul   | with_reducible apply uLawWorth   | with_reducible apply uWorth   | with_reducible apply uDiscriminant   | with_reducible apply uAct   | with_reducible apply uLawAct   | with_reducible apply uLawRoot   | with_reducible apply uFloorRoot   | with_reducible apply uDirected   | with_reducible apply uCompleted   | with_reducible apply uBezout   | with_reducible apply uLawSplit   | with_reducible apply uKind   | with_reducible apply uIsSquare   | ((with_reducible apply R.nw); intro HN tn sn ht)   | with_reducible apply iteT   | with_reducible apply iteF   | with_reducible apply R.notT   | with_reducible apply R.notF   | ((with_reducible apply SqT.of); with_reducible assumption)   | ((with_reducible apply SqL.of); with_reducible assumption)   | ((with_reducible apply same_seqT); with_reducible assumption)   | ((with_reducible apply sameB); with_reducible assumption)   | ((with_reducible apply same_at); with_reducible assumption)   | ((with_reducible apply kp_seqT); with_reducible assumption)   | ((with_reducible apply Same.seq); with_reducible assumption)   | ((with_reducible apply Kp.seqL); with_reducible assumption)   | ((with_reducible apply fresh_ne); with_reducible assumption)   | ((with_reducible apply Dw.same); with_reducible assumption)   | ((with_reducible apply R.isEq); exact eq_true (by first | decide | omega))   | ((with_reducible apply R.isLt); first | decide | omega)   | ((with_reducible apply R.isLtI); first | decide | omega)   | ((with_reducible apply R.isLeI); first | decide | omega)   | ((with_reducible apply R.cdiv); exact rfl)   | ((with_reducible apply R.cpow); exact rfl)   | with_reducible apply R.cdivX   | ((with_reducible apply R.isNe); omega)   | with_reducible apply hU   | ((with_reducible apply wayNF); first | exact rfl | exact ⟨rfl, rfl⟩ | exact ⟨rfl, rfl, rfl⟩ | exact ⟨rfl, rfl, rfl, rfl⟩)   | with_reducible apply R.bm   | ((with_reducible apply R.bmT); (focus ((first | with_reducible assumption | ((with_reducible apply same_at); with_reducible assumption) | ((with_reducible apply kp_at); with_reducible assumption)); done)))   | with_reducible apply R.dput   | with_reducible apply R.dget   | with_reducible apply R.din   | with_reducible apply R.dget2   | with_reducible apply R.forE   | with_reducible apply R.rng1   | with_reducible apply R.rng2   | with_reducible apply R.rg1   | with_reducible apply R.rg2   | with_reducible apply R.lcE   | with_reducible apply R.itup   | with_reducible apply R.ilst   )))
local macro_rules | `(tactic| sizeOf_list_dec) => `(tactic| (repeat' (first | with_reducible exact Kp.refl | with_reducible assumption | ((with_reducible apply kpB); first | with_reducible assumption | ((with_reducible apply same_kp); with_reducible assumption)))))
local macro_rules | `(tactic| array_get_dec) => `(tactic| (repeat' (first | with_reducible assumption | ((with_reducible apply SqL.of); with_reducible assumption) | ((with_reducible apply Same.seq); with_reducible assumption) | ((with_reducible apply Kp.seqL); with_reducible assumption) | ((with_reducible apply fresh_ne); with_reducible assumption) | ((with_reducible apply Dw.same); with_reducible assumption))))
local macro_rules | `(tactic| simp_wf) => `(tactic| (repeat' (first | with_reducible assumption | with_reducible apply hU | ((with_reducible apply SqT.of); with_reducible assumption) | ((with_reducible apply same_seqT); with_reducible assumption) | ((with_reducible apply kp_seqT); with_reducible assumption) | ((with_reducible apply Dw.same); with_reducible assumption))))
local macro_rules | `(tactic| array_mem_dec) => `(tactic| (repeat' (first | with_reducible exact Same.refl _ | with_reducible assumption | ((with_reducible apply sameB); with_reducible assumption))))
set_option hygiene true
def spBezout (_ : PySem.W.Frag) : Sp := fun vs H Q _ => ∃ a b : Int, vs = [.int a, .int b] ∧ a.natAbs < 2 ^ 9400 ∧ b.natAbs < 2 ^ 8990 ∧
  ∀ p u v, H p = none → u * a + v * b = gI a b → u.natAbs < 2 ^ 9404 → v.natAbs < 2 ^ 9404 → Q (.ref p) (upd H p (.tup [.int (gI a b), .int u, .int v]))
theorem uBezout {K : PySem.W.Frag} {H : Hp} {Q : VK} {E : XK} {vs : List V} {a b : Int} (e : vs = [.int a, .int b]) (h1 : a.natAbs < 1152921504606846976) (h2 : b.natAbs < 1152921504606846976)
    (kk : ∀ H' p u v, Same H H' → H' p = some (.tup [.int (gI a b), .int u, .int v]) → u * a + v * b = gI a b → Bd 9404 u → Bd 9404 v → Q (.ref p) H') : spBezout K vs H Q E :=
  ⟨a, b, e, pow_up (a := 60) h1 (by decide), pow_up (a := 60) h2 (by decide), fun p u v n e1 b1 b2 => kk _ p u v (same_upd n) upd_same e1 b1 b2⟩
theorem okBezout (T : Txt K mg fa fd) : FnOk P w K mg base CX0 1 (fa 0) (fd 0) ["a", "b"] (spBezout K) := by
  refine T.F_bezout.ok scBezout (fun vs H Q E h => ?_) (fun cdv A outer s H vs Q E hr h => ?_)
  · obtain ⟨a, b, rfl, ha, hb, q⟩ := h
    rfl
  · obtain ⟨a, b, rfl, ha, hb, q⟩ := h
    refine ⟨_, (pss_cons (ps_par3 (i := 2) (j := 3) (l := 4) (by rfl) scBezout.nd rfl rfl rfl (by decide) (by decide) (by decide) rfl rfl rfl (pa_cons (pv 0) (pa_cons pe_int (pa_cons pe_int pa_nil))) (by rfl))
      (pss_cons (ps_par3 (i := 5) (j := 6) (l := 7) (by rfl) scBezout.nd rfl rfl rfl (by decide) (by decide) (by decide) rfl rfl rfl (pa_cons (pv 1) (pa_cons pe_int (pa_cons pe_int pa_nil))) (by rfl))
      (pss_cons (ps_while PassesOwn.never (pt_cmp (pc_neI (pv 5) pe_int))
      (pss_cons (ps_set (i := 8) scBezout.nd rfl (Or.inl rfl) (pe_op op_fdivX (pv 2) (pv 5)))
        (pss_cons (ps_par (i := 2) (j := 5) (by rfl) scBezout.nd rfl rfl (by decide) rfl rfl (pa_cons (pv 5) (pa_cons (pe_op op_sub (pv 2) (pe_op op_mulW (pv 8) (pv 5))) pa_nil)) (by rfl))
        (pss_cons (ps_par (i := 3) (j := 6) (by rfl) scBezout.nd rfl rfl (by decide) rfl rfl (pa_cons (pv 6) (pa_cons (pe_op op_sub (pv 3) (pe_op op_mulW (pv 8) (pv 6))) pa_nil)) (by rfl))
        (pss_one (ps_par (i := 4) (j := 7) (by rfl) scBezout.nd rfl rfl (by decide) rfl rfl (pa_cons (pv 7) (pa_cons (pe_op op_sub (pv 4) (pe_op op_mulW (pv 8) (pv 7))) pa_nil)) (by rfl)))))))
      (pss_cons (ps_if (pt_cmp (pc_lt (pv 2) pe_int))
      (pss_one (ps_ret (pe_tup (pa_cons (pe_un un_neg (pv 2)) (pa_cons (pe_un un_neg (pv 3)) (pa_cons (pe_un un_neg (pv 4)) pa_nil))))))
      pss_nil)
      (pss_one (ps_ret (pe_tup (pa_cons (pv 2) (pa_cons (pv 3) (pa_cons (pv 4) pa_nil)))))))))), ?_⟩
    refine ⟨_, rfl, _, _, _, rfl, _, rfl, _, _, _, rfl, ?_⟩
    refine ⟨fun m σ H' => ∃ (g u v r ru rv : Int) (x8 : Option V), σ = [some (.int a), some (.int b), some (.int g), some (.int u), some (.int v), some (.int r), some (.int ru), some (.int rv), x8] ∧ m = r.natAbs ∧ H' = H ∧ Bz a b g u v r ru rv,
      ⟨_, a, 1, 0, b, 0, 1, none, rfl, rfl, rfl, by omega, by omega, ⟨rfl, by omega, by omega⟩, .inl ⟨rfl, rfl, rfl, rfl, rfl, rfl⟩⟩, ?_⟩
    rintro m σ H' ⟨g, u, v, r, ru, rv, x8, rfl, rfl, rfl, hz⟩
    refine ⟨_, rfl, _, _, rfl, rfl, _, rfl, wayN2 (fun hr => ?_) (fun hr => ?_)⟩
    · obtain ⟨s1, s2, s3, s4⟩ := hz.size hr
      have up : (2 : Nat) ^ 8990 ≤ 2 ^ 9400 := Nat.pow_le_pow_right (by decide) (by decide)
      have e4 : (2 : Nat) ^ 9404 = 2 ^ 9400 * 16 := Nat.pow_add 2 9400 4
      have q1 : (g.fdiv r).natAbs < 2 ^ 9404 := by omega
      have q2 : r.natAbs < 2 ^ 9000 := pow_up (Nat.lt_of_le_of_lt s2 hb) (by decide)
      have q3 : ru.natAbs < 2 ^ 9404 := by omega
      have q4 : rv.natAbs < 2 ^ 9404 := by omega
      refine ⟨fun σ' H2 => ∃ (g' u' v' r' ru' rv' : Int) (x8 : Option V), σ' = [some (.int a), some (.int b), some (.int g'), some (.int u'), some (.int v'), some (.int r'), some (.int ru'), some (.int rv'), x8] ∧ r'.natAbs < r.natAbs ∧ H2 = H' ∧ Bz a b g' u' v' r' ru' rv', ?_, ?_⟩
      · rintro σ' H2 ⟨g', u', v', r', ru', rv', x8', rfl, hl, rfl, hz'⟩
        exact ⟨_, hl, g', u', v', r', ru', rv', x8', rfl, rfl, rfl, hz'⟩
      · refine ⟨_, rfl, _, rfl, _, _, rfl, rfl, ⟨hr, q2⟩, ?_⟩
        refine ⟨_, rfl, _, rfl, _, rfl, _, rfl, _, _, rfl, rfl, wide_mul q1 q2 (by decide) (by decide) (by decide), _, _, rfl, rfl, _, _, rfl, ?_⟩
        refine ⟨_, rfl, _, rfl, _, rfl, _, rfl, _, _, rfl, rfl, wide_mul q1 q3 (by decide) (by decide) (by decide), _, _, rfl, rfl, _, _, rfl, ?_⟩
        refine ⟨_, rfl, _, rfl, _, rfl, _, rfl, _, _, rfl, rfl, wide_mul q1 q4 (by decide) (by decide) (by decide), _, _, rfl, rfl, _, _, rfl, ?_⟩
        exact ⟨_, _, _, _, _, _, _, rfl, (fd_rest hr).1, rfl, hz.step hr⟩
    · subst hr
      obtain ⟨h1, h2, ⟨h3, hu, hv⟩, h4⟩ := hz
      have up : (2 : Nat) ^ 8990 ≤ 2 ^ 9400 := Nat.pow_le_pow_right (by decide) (by decide)
      have e4 : (2 : Nat) ^ 9404 = 2 ^ 9400 * 16 := Nat.pow_add 2 9400 4
      have hg : ((g.natAbs : Nat) : Int) = gI a b := by
        rw [← h3]
        simp
      refine ⟨_, rfl, _, _, rfl, rfl, _, rfl, way2 (fun hn => ?_) (fun hn => ?_)⟩
      · refine ⟨_, rfl, _, rfl, _, rfl, _, rfl, _, rfl, _, rfl, by show 3 ≤ sizeLine; decide, fun p hp => ?_⟩
        have eg : -g = gI a b := by omega
        have k := q p (-u) (-v) hp (by rw [Int.neg_mul, Int.neg_mul]; omega) (by omega) (by omega)
        rw [← eg] at k
        exact k
      · refine ⟨_, rfl, _, rfl, _, rfl, by show 3 ≤ sizeLine; decide, fun p hp => ?_⟩
        have eg : g = gI a b := by omega
        have k := q p u v hp (by omega) (by omega) (by omega)
        rw [← eg] at k
        exact k
def spMeasure (K : PySem.W.Frag) : Sp := fun vs H Q _ => ∃ (l : Addr) (ns : List Int), vs = [.ref l] ∧ (SqL K H l (ns.map V.int) ∨ SqT K H l (ns.map V.int)) ∧ Q (.int (gL ns)) H
theorem uMeasureT {K : PySem.W.Frag} {H : Hp} {Q : VK} {E : XK} {vs : List V} {l : Addr} {x y : Int} (e : vs = [.ref l]) (hs : SqT K H l [.int x, .int y]) (kk : Q (.int (gL [x, y])) H) : spMeasure K vs H Q E := ⟨l, [x, y], e, .inr hs, kk⟩
theorem okMeasure (T : Txt K mg fa fd) : FnOk P w K mg base CX0 1 (fa 1) (fd 1) ["numbers"] (spMeasure K) := by
  refine T.F_measure.ok scMeasure (fun vs H Q E h => ?_) (fun cdv A outer s H vs Q E hr h => ?_)
  · obtain ⟨l, ns, rfl, hS, q⟩ := h
    rfl
  · obtain ⟨l, ns, rfl, hS, q⟩ := h
    rcases hS with hS | hS
    · refine ⟨_, (pss_cons (ps_set (i := 1) scMeasure.nd rfl (Or.inl rfl) pe_int)
      (pss_cons (ps_for PassesOwn.never rfl (piL K (pv 0)) (pg_name (i := 2) scMeasure.nd rfl (Or.inl rfl))
      (pss_one (ps_set (i := 1) scMeasure.nd rfl (Or.inl rfl) (pe_callBfun cr_gcd (by rfl) T.g_gcd (pa_cons (pv 1) (pa_cons (pv 2) pa_nil))))))
      (pss_one (ps_ret (pv 1))))), ?_⟩
      refine ⟨_, rfl, l, rfl, ⟨_, hS⟩, for_list (K := K) (a := l) (xs := ns.map V.int) (fun i σ H' => ∃ x2, σ = [some (.ref l), some (.int (gL (ns.take i))), x2] ∧ H' = H) ⟨_, rfl, rfl⟩ (fun i σ H' hi ⟨x2, e1, e2⟩ => by rw [e2]; exact hS) (fun i x σ H' hx ⟨x2, e1, e2⟩ => ?_) (fun σ H' ⟨x2, e1, e2⟩ => ?_)⟩
      · subst e1 e2
        rw [List.getElem?_map] at hx
        cases hn : ns[i]? with
        | none =>
          rw [hn] at hx
          cases hx
        | some n =>
          rw [hn] at hx
          cases hx
          refine ⟨_, rfl, _, rfl, _, _, rfl, some (.int n), ?_, rfl⟩
          rw [gL_take hn]
          rfl
      · subst e1 e2
        refine ⟨_, rfl, ?_⟩
        rw [List.length_map, List.take_length]
        exact q
    · refine ⟨_, (pss_cons (ps_set (i := 1) scMeasure.nd rfl (Or.inl rfl) pe_int)
      (pss_cons (ps_for PassesOwn.never rfl (piT K (pv 0)) (pg_name (i := 2) scMeasure.nd rfl (Or.inl rfl))
      (pss_one (ps_set (i := 1) scMeasure.nd rfl (Or.inl rfl) (pe_callBfun cr_gcd (by rfl) T.g_gcd (pa_cons (pv 1) (pa_cons (pv 2) pa_nil))))))
      (pss_one (ps_ret (pv 1))))), ?_⟩
      refine ⟨_, rfl, l, rfl, ⟨_, hS⟩, for_tup (K := K) (a := l) (xs := ns.map V.int) (fun i σ H' => ∃ x2, σ = [some (.ref l), some (.int (gL (ns.take i))), x2] ∧ H' = H) ⟨_, rfl, rfl⟩ (fun i σ H' hi ⟨x2, e1, e2⟩ => by rw [e2]; exact hS) (fun i x σ H' hx ⟨x2, e1, e2⟩ => ?_) (fun σ H' ⟨x2, e1, e2⟩ => ?_)⟩
      · subst e1 e2
        rw [List.getElem?_map] at hx
        cases hn : ns[i]? with
        | none =>
          rw [hn] at hx
          cases hx
        | some n =>
          rw [hn] at hx
          cases hx
          refine ⟨_, rfl, _, rfl, _, _, rfl, some (.int n), ?_, rfl⟩
          rw [gL_take hn]
          rfl
      · subst e1 e2
        refine ⟨_, rfl, ?_⟩
        rw [List.length_map, List.take_length]
        exact q
def spFloorRoot (_ : PySem.W.Frag) : Sp := fun vs H Q _ => ∃ n : Int, vs = [.int n] ∧ 0 ≤ n ∧ n.natAbs < 2 ^ 13000 ∧ Q (.int (rootI n)) H
theorem uFloorRoot {K : PySem.W.Frag} {H : Hp} {Q : VK} {E : XK} {vs : List V} {n : Int} (e : vs = [.int n]) (h0 : 0 ≤ n) (h1 : n < 1000000000000000000) (kk : Q (.int (rootI n)) H) : spFloorRoot K vs H Q E :=
  ⟨n, e, h0, pow_up (a := 60) (by show n.natAbs < 1152921504606846976; omega) (by decide), kk⟩
theorem okFloorRoot (T : Txt K mg fa fd) : FnOk P w K mg base CX0 1 (fa 2) (fd 2) ["n"] (spFloorRoot K) := by
  refine T.F_floor_root.ok scFloorRoot (fun vs H Q E h => ?_) (fun cdv A outer s H vs Q E hr h => ?_)
  · obtain ⟨n, rfl, h0, h1, q⟩ := h
    rfl
  · obtain ⟨n, rfl, h0, h1, q⟩ := h
    refine ⟨_, (pss_one (ps_ret (pe_callBfun cr_isqrt (by rfl) T.g_isqrt (pa_cons (pv 0) pa_nil)))), ?_⟩
    exact ⟨_, rfl, _, rfl, h0, h1, q⟩
def spIsSquare (_ : PySem.W.Frag) : Sp := fun vs H Q _ => ∃ n : Int, vs = [.int n] ∧ n.natAbs < 2 ^ 13000 ∧ Q (.bl (decide (0 ≤ n ∧ rootI n * rootI n = n))) H
theorem uIsSquare {K : PySem.W.Frag} {H : Hp} {Q : VK} {E : XK} {vs : List V} {n : Int} {m : Nat} (hev : vs = [.int n]) (h0 : Bd m n) (h1 : Nat.ble m 13000 = true) (kk : Q (.bl (decide (0 ≤ n ∧ rootI n * rootI n = n))) H) : spIsSquare K vs H Q E := ⟨n, hev, bdm h0 h1, kk⟩
theorem okIsSquare (T : Txt K mg fa fd) : FnOk P w K mg base CX0 2 (fa 3) (fd 3) ["n"] (spIsSquare K) := by
  refine T.F_is_square.ok scIsSquare (fun vs H Q E h => ?_) (fun cdv A outer s H vs Q E hr h => ?_)
  · obtain ⟨n, rfl, h1, q⟩ := h
    rfl
  · obtain ⟨n, rfl, h1, q⟩ := h
    refine ⟨_, (pss_cons (ps_if (pt_cmp (pc_lt (pv 0) pe_int))
      (pss_one (ps_ret pe_bl))
      pss_nil)
      (pss_cons (ps_set (i := 1) scIsSquare.nd rfl (Or.inl rfl) (pe_call (sp := spFloorRoot K) (okFloorRoot T) hr (by rfl) T.G_floor_root T.F_floor_root.kp T.B_floor_root .nil pass0 (pa_cons (pv 0) pa_nil)))
      (pss_one (ps_ret (pe_cmp (pc_eqI (pe_op op_mulW (pv 1) (pv 1)) (pv 0))))))), ?_⟩
    refine ⟨_, rfl, _, _, rfl, rfl, _, rfl, ite2 (fun e => ?_) (fun e => ?_)⟩
    · have e1 : n < 0 := of_decide_eq_true e
      have e2 : decide (0 ≤ n ∧ rootI n * rootI n = n) = false := decide_eq_false fun z => by omega
      rw [e2] at q
      exact q
    · have e1 : ¬ n < 0 := fun z => e (decide_eq_true z)
      have h0 : 0 ≤ n := by omega
      have hr := rootI_lt h0 h1
      refine ⟨_, rfl, n, rfl, h0, h1, _, rfl, _, rfl, _, _, rfl, rfl, wide_mul hr hr (by decide) (by decide) (by decide), _, rfl, _, _, rfl, rfl, ?_⟩
      have e2 : decide (0 ≤ n ∧ rootI n * rootI n = n) = decide (rootI n * rootI n = n) := by
        rw [decide_eq_decide]
        exact ⟨fun z => z.2, fun z => ⟨h0, z⟩⟩
      rw [e2] at q
      exact q
def spPower (_ : PySem.W.Frag) : Sp := fun vs H Q _ => ∃ b n : Nat, vs = [.int (b : Int), .int (n : Int)] ∧ b < 2 ^ 64 ∧ n < 2 ^ 60 ∧ Q (.int ((b ^ n : Nat) : Int)) H
theorem okPower (T : Txt K mg fa fd) : FnOk P w K mg base CX0 1 (fa 4) (fd 4) ["base", "many"] (spPower K) := by
  refine T.F_power.ok scPower (fun vs H Q E h => ?_) (fun cdv A outer s H vs Q E hr h => ?_)
  · obtain ⟨b, n, rfl, hb, hn, q⟩ := h
    rfl
  · obtain ⟨b, n, rfl, hb, hn, q⟩ := h
    refine ⟨_, (pss_cons (ps_set (i := 2) scPower.nd rfl (Or.inl rfl) pe_int)
      (pss_cons (ps_for PassesOwn.never rfl (pi_range1 (by rfl) T.m_range (pa_cons (pv 1) pa_nil)) (pg_name (i := 3) scPower.nd rfl (Or.inl rfl))
      (pss_one (ps_set (i := 2) scPower.nd rfl (Or.inl rfl) (pe_op mulNN (pv 2) (pv 0)))))
      (pss_one (ps_ret (pv 2))))), ?_⟩
    have hn' : n < 1152921504606846976 := hn
    refine ⟨_, rfl, _, rfl, by omega, by omega, ?_⟩
    have e : ((n : Nat) : Int).toNat = n := rfl
    rw [e]
    refine for_range (lo := 0) (n := n) (fun i σ H' => ∃ x3, σ = [some (.int (b : Int)), some (.int (n : Int)), some (.int ((b ^ i : Nat) : Int)), x3] ∧ H' = H) ⟨none, rfl, rfl⟩ (fun i σ H' hi ⟨x3, e1, e2⟩ => ?_) (fun σ H' ⟨x3, e1, e2⟩ => ?_)
    · subst e1 e2
      exact ⟨_, rfl, _, rfl, b ^ i, b, rfl, rfl, .inr hb, _, rfl, rfl⟩
    · subst e1 e2
      exact ⟨_, rfl, q⟩
def spPowerModulo (_ : PySem.W.Frag) : Sp := fun vs H Q _ => ∃ (z : Int) (b e m : Nat), vs = [.int z, .int (e : Int), .int (m : Int)] ∧ 0 < m ∧ m < 2 ^ 64 ∧ e < 2 ^ 64 ∧ z % (m : Int) = ((b % m : Nat) : Int) ∧ Q (.int ((pmod b e m : Nat) : Int)) H
theorem okPowerModulo (T : Txt K mg fa fd) : FnOk P w K mg base CX0 1 (fa 5) (fd 5) ["base", "many", "modulus"] (spPowerModulo K) := by
  refine T.F_power_modulo.ok scPowerModulo (fun vs H Q E h => ?_) (fun cdv A outer s H vs Q E hr h => ?_)
  · obtain ⟨z, b, e, m, rfl, m0, m1, e1, hz, q⟩ := h
    rfl
  · obtain ⟨z, b, e, m, rfl, m0, m1, e1, hz, q⟩ := h
    refine ⟨_, (pss_cons (ps_set (i := 3) scPowerModulo.nd rfl (Or.inl rfl) pe_int)
      (pss_cons (ps_set (i := 4) scPowerModulo.nd rfl (Or.inl rfl) (pe_op op_mod (pv 0) (pv 2)))
      (pss_cons (ps_while PassesOwn.never (pt_cmp (pc_gt (pv 1) pe_int))
      (C8.pss_cut (ps_if (pt_cmp (pc_eqI (pe_op modNN (pv 1) pe_int) pe_int))
        (pss_one (ps_set (i := 3) scPowerModulo.nd rfl (Or.inl rfl) (pe_op modNN (pe_op mulNN (pv 3) (pv 4)) (pv 2))))
        pss_nil)
        (pss_cons (ps_set (i := 4) scPowerModulo.nd rfl (Or.inl rfl) (pe_op modNN (pe_op mulNN (pv 4) (pv 4)) (pv 2)))
        (pss_one (ps_set (i := 1) scPowerModulo.nd rfl (Or.inl rfl) (pe_op divNN (pv 1) pe_int))))))
      (pss_one (ps_ret (pv 3)))))), ?_⟩
    refine ⟨_, rfl, _, rfl, _, _, rfl, rfl, by show (0 : Int) < (m : Int); omega, ?_⟩
    dsimp only
    rw [hz]
    refine ⟨fun t σ H' => ∃ (f r s k : Nat), σ = [some (.int z), some (.int (k : Int)), some (.int (m : Int)), some (.int (r : Int)), some (.int (s : Int))] ∧ t = k ∧ H' = H ∧ k < 2 ^ f ∧ s < m ∧ pmL m f r s k = pmod b e m,
      ⟨_, 64, 1, b % m, e, rfl, rfl, rfl, e1, Nat.mod_lt _ m0, rfl⟩, ?_⟩
    rintro t σ H' ⟨f, r, s, k, rfl, rfl, rfl, hk, hs, hr⟩
    refine ⟨_, rfl, _, _, rfl, rfl, _, rfl, way2 (fun h => ?_) (fun h => ?_)⟩
    · have k0 : t ≠ 0 := by omega
      obtain ⟨g, rfl⟩ : ∃ g, f = g + 1 := ⟨f - 1, by
        cases f with
        | zero => rw [Nat.pow_zero] at hk; omega
        | succ g => omega⟩
      unfold pmL at hr
      rw [bifF (beqF k0)] at hr
      have s64 : s < 2 ^ 64 := Nat.lt_trans hs m1
      refine ⟨fun σ' H2 => ∃ (f r s k : Nat), σ' = [some (.int z), some (.int (k : Int)), some (.int (m : Int)), some (.int (r : Int)), some (.int (s : Int))] ∧ k < t ∧ H2 = H' ∧ k < 2 ^ f ∧ s < m ∧ pmL m f r s k = pmod b e m, ?_, ?_⟩
      · rintro σ' H2 ⟨f, r, s, k, e1, e2, e3, e4⟩
        exact ⟨k, e2, f, r, s, k, e1, rfl, e3, e4⟩
      · refine ⟨fun σ' H2 => σ' = [some (.int z), some (.int (t : Int)), some (.int (m : Int)), some (.int ((bif (t % 2).beq 1 then r * s % m else r : Nat) : Int)), some (.int (s : Int))] ∧ H2 = H', ?_, ?_⟩
        · refine ⟨_, rfl, t, 2, rfl, rfl, by decide, _, _, rfl, rfl, _, rfl, way2 (fun h2 => ?_) (fun h2 => ?_)⟩
          · have e2 : t % 2 = 1 := by omega
            rw [bifT (beqT e2)]
            exact ⟨_, rfl, _, rfl, r, s, rfl, rfl, .inr s64, _, rfl, r * s, m, rfl, rfl, m0, rfl, rfl⟩
          · have e2 : t % 2 ≠ 1 := by omega
            rw [bifF (beqF e2)]
            exact ⟨rfl, rfl⟩
        · rintro σ' H2 ⟨rfl, rfl⟩
          refine ⟨_, rfl, _, rfl, s, s, rfl, rfl, .inr s64, _, rfl, s * s, m, rfl, rfl, m0, ?_⟩
          refine ⟨_, rfl, t, 2, rfl, rfl, div9 (by decide) (by decide), g, _, s * s % m, t / 2, rfl, by omega, rfl, ?_, Nat.mod_lt _ m0, hr⟩
          have e3 : (2 : Nat) ^ (g + 1) = 2 ^ g * 2 := Nat.pow_succ _ _
          omega
    · have k0 : t = 0 := by omega
      subst k0
      refine ⟨_, rfl, ?_⟩
      have e2 : pmL m f r s 0 = r := by
        cases f with
        | zero => rfl
        | succ g => rfl
      rw [e2] at hr
      rw [← hr] at q
      exact q
def spTakenOut (_ : PySem.W.Frag) : Sp := fun vs H Q _ => ∃ n p : Nat, vs = [.int (n : Int), .int (p : Int)] ∧ 0 < n ∧ n < 2 ^ 64 ∧ 2 ≤ p ∧ p < 2 ^ 64 ∧
  ∀ t, H t = none → Q (.ref t) (upd H t (.tup [.int ((takenOut n p).1 : Int), .int ((takenOut n p).2 : Int)]))
theorem okTakenOut (T : Txt K mg fa fd) : FnOk P w K mg base CX0 1 (fa 6) (fd 6) ["n", "p"] (spTakenOut K) := by
  refine T.F_taken_out.ok scTakenOut (fun vs H Q E h => ?_) (fun cdv A outer s H vs Q E hr h => ?_)
  · obtain ⟨n, p, rfl, n0, n1, p0, p1, q⟩ := h
    rfl
  · obtain ⟨n, p, rfl, n0, n1, p0, p1, q⟩ := h
    refine ⟨_, (pss_cons (ps_set (i := 2) scTakenOut.nd rfl (Or.inl rfl) pe_int)
      (pss_cons (ps_while PassesOwn.never (pt_cmp (pc_eqI (pe_op modNN (pv 0) (pv 1)) pe_int))
      (pss_cons (ps_set (i := 0) scTakenOut.nd rfl (Or.inl rfl) (pe_op divNN (pv 0) (pv 1)))
        (pss_one (ps_aug (i := 2) scTakenOut.nd rfl (Or.inl rfl) pe_int ip_add))))
      (pss_one (ps_ret (pe_tup (pa_cons (pv 2) (pa_cons (pv 0) pa_nil))))))), ?_⟩
    refine ⟨fun t σ H' => ∃ (f x k : Nat), σ = [some (.int (x : Int)), some (.int (p : Int)), some (.int (k : Int))] ∧ t = x ∧ H' = H ∧ 0 < x ∧ x < 2 ^ f ∧ toL p f x k = takenOut n p,
      ⟨_, 64, n, 0, rfl, rfl, rfl, n0, n1, rfl⟩, ?_⟩
    rintro t σ H' ⟨f, x, k, rfl, rfl, rfl, x0, x1, hr⟩
    refine ⟨_, rfl, _, rfl, t, p, rfl, rfl, by omega, _, _, rfl, rfl, _, rfl, way2 (fun h => ?_) (fun h => ?_)⟩
    · have k0 : t % p = 0 := by omega
      obtain ⟨g, rfl⟩ : ∃ g, f = g + 1 := ⟨f - 1, by
        cases f with
        | zero => rw [Nat.pow_zero] at x1; omega
        | succ g => omega⟩
      unfold toL at hr
      rw [bifT (beqT k0)] at hr
      have hle : p ≤ t := Nat.le_of_dvd x0 (Nat.dvd_of_mod_eq_zero k0)
      have d0 : 0 < t / p := Nat.div_pos hle (by omega)
      have d1 : t / p ≤ t / 2 := Nat.div_le_div_left p0 (by decide)
      refine ⟨fun σ' H2 => ∃ (f x k : Nat), σ' = [some (.int (x : Int)), some (.int (p : Int)), some (.int (k : Int))] ∧ x < t ∧ H2 = H' ∧ 0 < x ∧ x < 2 ^ f ∧ toL p f x k = takenOut n p, ?_, ?_⟩
      · rintro σ' H2 ⟨f, x, k, e1, e2, e3, e4⟩
        exact ⟨x, e2, f, x, k, e1, rfl, e3, e4⟩
      · refine ⟨_, rfl, _, rfl, t, p, rfl, rfl, div9 (by omega) p1, ?_⟩
        refine ⟨_, rfl, _, _, rfl, rfl, g, t / p, k + 1, rfl, by omega, rfl, d0, ?_, hr⟩
        have e3 : (2 : Nat) ^ (g + 1) = 2 ^ g * 2 := Nat.pow_succ _ _
        omega
    · have k0 : t % p ≠ 0 := by omega
      refine ⟨_, rfl, _, rfl, by show 2 ≤ sizeLine; decide, fun u nu => ?_⟩
      have e2 : toL p f t k = (k, t) := by
        cases f with
        | zero => rfl
        | succ g =>
          unfold toL
          rw [bifF (beqF k0)]
      rw [e2] at hr
      rw [← hr] at q
      exact q u nu
def spBehavesAsPrime (_ : PySem.W.Frag) : Sp := fun vs H Q _ => ∃ n b m o : Nat, vs = [.int (n : Int), .int (b : Int), .int (m : Int), .int (o : Int)] ∧ 1 < n ∧ n < 2 ^ 64 ∧ m < 2 ^ 60 ∧ o < 2 ^ 64 ∧ Q (.bl (behaves n b m o)) H
theorem okBehavesAsPrime (T : Txt K mg fa fd) : FnOk P w K mg base CX0 2 (fa 8) (fd 8) ["n", "base", "many", "odd"] (spBehavesAsPrime K) := by
  refine T.F__behaves_as_prime.ok scBehavesAsPrime (fun vs H Q E h => ?_) (fun cdv A outer s H vs Q E hr h => ?_)
  · obtain ⟨n, b, m, o, rfl, n0, n1, m1, o1, q⟩ := h
    rfl
  · obtain ⟨n, b, m, o, rfl, n0, n1, m1, o1, q⟩ := h
    refine ⟨_, (pss_cons (ps_set (i := 4) scBehavesAsPrime.nd rfl (Or.inl rfl) (pe_call (sp := spPowerModulo K) (okPowerModulo T) hr (by rfl) T.G_power_modulo T.F_power_modulo.kp T.B_power_modulo .nil pass0 (pa_cons (pv 1) (pa_cons (pv 3) (pa_cons (pv 0) pa_nil)))))
      (pss_cons (ps_if (pt_cmp (pc_eqI (pv 4) pe_int))
      (pss_one (ps_ret pe_bl))
      pss_nil)
      (pss_cons (ps_for PassesOwn.never rfl (pi_range1 (by rfl) T.m_range (pa_cons (pv 2) pa_nil)) (pg_name (i := 5) scBehavesAsPrime.nd rfl (Or.inl rfl))
      (pss_cons (ps_if (pt_cmp (pc_eqI (pv 4) (pe_op op_subN (pv 0) pe_int)))
        (pss_one (ps_ret pe_bl))
        pss_nil)
        (pss_one (ps_set (i := 4) scBehavesAsPrime.nd rfl (Or.inl rfl) (pe_op modNN (pe_op mulNN (pv 4) (pv 4)) (pv 0))))))
      (pss_one (ps_ret pe_bl))))), ?_⟩
    have m1' : m < 1152921504606846976 := m1
    refine ⟨_, rfl, _, rfl, _, rfl, (b : Int), b, o, n, rfl, by omega, n1, o1, (Int.natCast_emod b n).symm, ?_⟩
    unfold behaves at q
    refine ⟨_, rfl, _, _, rfl, rfl, _, rfl, way2 (fun h => ?_) (fun h => ?_)⟩
    · have e : pmod b o n = 1 := by omega
      rw [bifT (beqT e)] at q
      exact q
    · have e : pmod b o n ≠ 1 := by omega
      rw [bifF (beqF e)] at q
      refine ⟨_, rfl, _, rfl, by omega, by omega, ?_⟩
      have em : ((m : Nat) : Int).toNat = m := rfl
      rw [em]
      generalize hR : behL n m (pmod b o n) = R at q
      refine for_range (lo := 0) (n := m) (fun i σ H' => ∃ (x : Nat) (x5 : Option V), σ = [some (.int (n : Int)), some (.int (b : Int)), some (.int (m : Int)), some (.int (o : Int)), some (.int (x : Int)), x5] ∧ H' = H ∧ i ≤ m ∧ x < n ∧ behL n (m - i) x = R)
        ⟨pmod b o n, none, rfl, rfl, Nat.zero_le _, pmod_lt n0, hR⟩ (fun i σ H' hi ⟨x, x5, e1, e2, e3, e4, e5⟩ => ?_) (fun σ H' ⟨x, x5, e1, e2, e3, e4, e5⟩ => ?_)
      · subst e1 e2
        obtain ⟨g, hg⟩ : ∃ g, m - i = g + 1 := ⟨m - i - 1, by omega⟩
        rw [hg] at e5
        unfold behL at e5
        refine ⟨_, rfl, _, rfl, n, 1, rfl, rfl, by omega, _, _, rfl, rfl, _, rfl, way2 (fun h => ?_) (fun h => ?_)⟩
        · have ex : x = n - 1 := by omega
          rw [bifT (beqT ex)] at e5
          rw [← e5] at q
          exact q
        · have ex : x ≠ n - 1 := by omega
          rw [bifF (beqF ex)] at e5
          have eg : m - (i + 1) = g := by omega
          refine ⟨_, rfl, _, rfl, x, x, rfl, rfl, .inl (Nat.lt_trans e4 n1), _, rfl, x * x, n, rfl, rfl, by omega, x * x % n, _, rfl, rfl, by omega, Nat.mod_lt _ (by omega), ?_⟩
          rw [eg]
          exact e5
      · subst e1 e2
        rw [Nat.sub_self] at e5
        unfold behL at e5
        rw [← e5] at q
        exact q
def spIsPrime (_ : PySem.W.Frag) : Sp := fun vs H Q _ => ∃ n : Nat, vs = [.int (n : Int)] ∧ n < 2 ^ 60 ∧ ∀ H', Same H H' → Q (.bl (isPrimeM n)) H'
theorem byW_app (n : Nat) : ∀ (xs ys : List Nat), byW n xs = none → byW n (xs ++ ys) = byW n ys
  | [], _, _ => rfl
  | p :: r, ys, h => by
    unfold byW at h
    show byW n (p :: (r ++ ys)) = _
    rw [byW]
    cases e : (n % p).beq 0 with
    | true =>
      rw [e] at h
      cases h
    | false =>
      rw [e] at h
      exact byW_app n r ys h
theorem toL_fst {p : Nat} : ∀ {f n k : Nat}, (toL p f n k).1 ≤ k + f
  | 0, n, k => Nat.le_refl _
  | f + 1, n, k => by
    unfold toL
    cases (n % p).beq 0 with
    | true =>
      have h := toL_fst (p := p) (f := f) (n := n / p) (k := k + 1)
      show (toL p f (n / p) (k + 1)).1 ≤ k + (f + 1)
      omega
    | false => show k ≤ k + (f + 1); omega
theorem okIsPrime (T : Txt K mg fa fd) : FnOk P w K mg base CX0 3 (fa 7) (fd 7) ["n"] (spIsPrime K) := by
  refine T.F_is_prime.ok scIsPrime (fun vs H Q E h => ?_) (fun cdv A outer s H vs Q E hr h => ?_)
  · obtain ⟨n, rfl, n1, q⟩ := h
    rfl
  · obtain ⟨n, rfl, n1, q⟩ := h
    refine ⟨_, (pss_cons (ps_if (pt_cmp (pc_lt (pv 0) pe_int))
      (pss_one (ps_ret pe_bl))
      pss_nil)
      (pss_cons (ps_for PassesOwn.never rfl (piT K (pe_glob (v := .ref (fa 39)) (by rfl) T.g_WITNESSES rfl)) (pg_name (i := 1) scIsPrime.nd rfl (Or.inl rfl))
      (pss_one (ps_if (pt_cmp (pc_eqI (pe_op modNN (pv 0) (pv 1)) pe_int))
        (pss_one (ps_ret (pe_cmp (pc_eqI (pv 0) (pv 1)))))
        pss_nil)))
      (pss_cons (ps_asg (pe_call (sp := spTakenOut K) (okTakenOut T) (hr.mono (by decide)) (by rfl) T.G_taken_out T.F_taken_out.kp T.B_taken_out .nil pass0 (pa_cons (pe_op op_subN (pv 0) pe_int) (pa_cons pe_int pa_nil))) (pgT K 2 (by rfl) (pgs_cons (pg_name (i := 2) scIsPrime.nd rfl (Or.inl rfl)) (pgs_cons (pg_name (i := 3) scIsPrime.nd rfl (Or.inl rfl)) pgs_nil))))
      (pss_cons (ps_for PassesOwn.never rfl (piT K (pe_glob (v := .ref (fa 39)) (by rfl) T.g_WITNESSES rfl)) (pg_name (i := 4) scIsPrime.nd rfl (Or.inl rfl))
      (pss_one (ps_if (pt_not (pt_val (pe_call (sp := spBehavesAsPrime K) (okBehavesAsPrime T) hr (by rfl) T.G__behaves_as_prime T.F__behaves_as_prime.kp T.B__behaves_as_prime .nil pass0 (pa_cons (pv 0) (pa_cons (pv 4) (pa_cons (pv 2) (pa_cons (pv 3) pa_nil)))))))
        (pss_one (ps_ret pe_bl))
        pss_nil)))
      (pss_one (ps_ret pe_bl)))))), ?_⟩
    have n1' : n < 1152921504606846976 := n1
    have n64 : n < 2 ^ 64 := Nat.lt_trans n1 (by decide)
    unfold isPrimeM at q
    refine ⟨_, rfl, _, _, rfl, rfl, _, rfl, way2 (fun h => ?_) (fun h => ?_)⟩
    · have e : n ≤ 1 := by omega
      rw [bifT (bleT e)] at q
      exact q H (Same.refl H)
    · have e : ¬ n ≤ 1 := by omega
      rw [bifF (bleF e)] at q
      have hW := T.S_WITNESSES
      refine ⟨_, rfl, ⟨_, hW H⟩, for_tup (K := K) (xs := (wits.map fun (x : Nat) => V.int (x : Int))) (fun i σ H' => ∃ x1, σ = [some (.int (n : Int)), x1, none, none, none] ∧ H' = H ∧ byW n (wits.take i) = none) ⟨none, rfl, rfl, rfl⟩ (fun i σ H' hi ⟨x1, e1, e2, e3⟩ => hW H') (fun i x σ H' hx ⟨x1, e1, e2, e3⟩ => ?_) (fun σ H' ⟨x1, e1, e2, e3⟩ => ?_)⟩
      · subst e1 e2
        rw [List.getElem?_map] at hx
        cases hn : wits[i]? with
        | none =>
          rw [hn] at hx
          cases hx
        | some p =>
          rw [hn] at hx
          cases hx
          have pw : p ∈ wits := List.mem_of_getElem? hn
          have p0 : 0 < p := (by decide : ∀ x ∈ wits, 0 < x) p pw
          have tk : wits.take (i + 1) = wits.take i ++ [p] := by
            rw [List.take_add_one, hn]
            rfl
          refine ⟨_, rfl, _, rfl, n, p, rfl, rfl, p0, _, _, rfl, rfl, _, rfl, way2 (fun h2 => ?_) (fun h2 => ?_)⟩
          · have e4 : n % p = 0 := by omega
            have e5 : byW n wits = some (n.beq p) := by
              have sp : wits = wits.take i ++ (p :: wits.drop (i + 1)) := by
                have h5 := List.getElem?_eq_some_iff.mp hn
                obtain ⟨h6, h7⟩ := h5
                rw [← h7, ← List.drop_eq_getElem_cons h6, List.take_append_drop]
              rw [sp, byW_app _ _ _ e3, byW, bifT (beqT e4)]
            rw [e5] at q
            refine ⟨_, rfl, _, rfl, _, _, rfl, rfl, ?_⟩
            have e6 : decide ((n : Int) = (p : Int)) = n.beq p := by
              by_cases z : n = p
              · rw [decide_eq_true (by omega), beqT z]
              · rw [decide_eq_false (by omega), beqF z]
            dsimp only
            rw [e6]
            exact q _ (Same.refl _)
          · have e4 : n % p ≠ 0 := by omega
            refine ⟨_, rfl, rfl, ?_⟩
            rw [tk, byW_app _ _ _ e3, byW, bifF (beqF e4)]
            rfl
      · subst e1 e2
        have e5 : byW n wits = none := by
          rw [List.length_map, List.take_length] at e3
          exact e3
        rw [e5] at q
        have z1 : 0 < n - 1 := by omega
        refine ⟨_, rfl, n, 1, rfl, rfl, by omega, n - 1, 2, rfl, z1, by omega, by decide, by decide, fun t nt => ?_⟩
        have od := toL_pos (p := 2) (by decide) (f := 64) (k := 0) z1
        have mn := toL_fst (p := 2) (f := 64) (n := n - 1) (k := 0)
        change 0 < (takenOut (n - 1) 2).2 ∧ (takenOut (n - 1) 2).2 ≤ n - 1 at od
        change (takenOut (n - 1) 2).1 ≤ 0 + 64 at mn
        refine ⟨t, _, rfl, SqT.of upd_same, rfl, _, _, rfl, _, _, rfl, rfl, ?_⟩
        generalize hf : (fun b => behaves n b (takenOut (n - 1) 2).1 (takenOut (n - 1) 2).2) = f at q
        have hf2 : ∀ b, behaves n b (takenOut (n - 1) 2).1 (takenOut (n - 1) 2).2 = f b := fun b => by rw [← hf]
        generalize (takenOut (n - 1) 2).1 = m at hf2 mn ⊢
        generalize (takenOut (n - 1) 2).2 = o at hf2 od ⊢
        have q2 : ∀ H'', Q (.bl (wits.all f)) H'' → True := fun _ _ => trivial
        refine ⟨_, rfl, ⟨_, hW _⟩, for_tup (K := K) (xs := (wits.map fun (x : Nat) => V.int (x : Int))) (fun i σ H2 => ∃ x4, σ = [some (.int (n : Int)), x1, some (.int (m : Int)), some (.int (o : Int)), x4] ∧ Same H' H2 ∧ (wits.take i).all f = true) ⟨none, rfl, same_upd nt, rfl⟩ (fun i σ H2 hi ⟨x4, e1, e2, e3⟩ => hW H2) (fun i x σ H2 hx ⟨x4, e1, e2, e6⟩ => ?_) (fun σ H2 ⟨x4, e1, e2, e6⟩ => ?_)⟩
        · subst e1
          rw [List.getElem?_map] at hx
          cases hn : wits[i]? with
          | none =>
            rw [hn] at hx
            cases hx
          | some b =>
            rw [hn] at hx
            cases hx
            have tk : wits.take (i + 1) = wits.take i ++ [b] := by
              rw [List.take_add_one, hn]
              rfl
            refine ⟨_, rfl, _, rfl, _, rfl, _, rfl, n, b, m, o, rfl, by omega, n64, Nat.lt_of_le_of_lt mn (by decide), by omega, _, rfl, ?_⟩
            rw [hf2]
            cases hb : f b with
            | false =>
              refine iteT ?_
              have e7 : wits.all f = false := by
                rw [Bool.eq_false_iff]
                intro z
                have z2 := List.all_eq_true.mp z b (List.mem_of_getElem? hn)
                rw [hb] at z2
                cases z2
              rw [e7] at q
              exact q H2 e2
            | true =>
              refine iteF ⟨_, rfl, e2, ?_⟩
              rw [tk, List.all_append, e6, List.all_cons, hb]
              rfl
        · subst e1
          rw [List.length_map, List.take_length] at e6
          rw [e6] at q
          exact q H2 e2
def spLeastMeasure (_ : PySem.W.Frag) : Sp := fun vs H Q _ => ∃ n s q : Nat, vs = [.int (n : Int), .int (s : Int)] ∧ n < 2 ^ 60 ∧ s < 2 ^ 60 ∧ leastM n s = some q ∧ Q (.int (q : Int)) H
theorem PIp_of {X : Cx} {op : Operator} {r : R2} (h : OpR X (inplaceOp op) r) : PIp X op r := h
theorem okLeastMeasure (T : Txt K mg fa fd) : FnOk P w K mg base CX0 1 (fa 10) (fd 10) ["n", "start"] (spLeastMeasure K) := by
  refine T.F__least_measure.ok scLeastMeasure (fun vs H Q E h => ?_) (fun cdv A outer s H vs Q E hr h => ?_)
  · obtain ⟨n, s, q, rfl, n1, s1, hm, Qd⟩ := h
    rfl
  · obtain ⟨n, s, q, rfl, n1, s1, hm, Qd⟩ := h
    refine ⟨_, (pss_cons (ps_if (pt_cmp (pc_eqI (pe_op modNN (pv 0) pe_int) pe_int))
      (pss_one (ps_ret pe_int))
      pss_nil)
      (pss_cons (ps_set (i := 2) scLeastMeasure.nd rfl (Or.inl rfl) (pe_callB (call_max2 rfl) (by rfl) T.m_max (by decide +kernel) (pa_cons pe_int (pa_cons (pv 1) pa_nil))))
      (pss_cons (ps_while PassesOwn.never (pt_cmp (pc_neI (pe_op modNN (pv 0) (pv 2)) pe_int))
      (pss_one (ps_aug (i := 2) scLeastMeasure.nd rfl (Or.inl rfl) pe_int (PIp_of iop_addN))))
      (pss_one (ps_ret (pv 2)))))), ?_⟩
    unfold leastM at hm
    refine ⟨_, rfl, n, 2, rfl, rfl, by decide, _, _, rfl, rfl, _, rfl, way2 (fun h => ?_) (fun h => ?_)⟩
    · have e : n % 2 = 0 := by omega
      rw [bifT (beqT e)] at hm
      cases hm
      exact Qd
    · have e : n % 2 ≠ 0 := by omega
      rw [bifF (beqF e)] at hm
      refine ⟨_, rfl, _, _, rfl, ?_⟩
      have e2 : (if (s : Int) > 3 then (s : Int) else 3) = ((bif s.ble 3 then 3 else s : Nat) : Int) := by
        by_cases z : s ≤ 3
        · rw [bifT (bleT z), if_neg (by omega)]
          rfl
        · rw [bifF (bleF z), if_pos (by omega)]
      dsimp only
      rw [e2]
      have st : (bif s.ble 3 then 3 else s) < 2 ^ 60 ∧ 0 < (bif s.ble 3 then 3 else s) := by
        by_cases z : s ≤ 3
        · rw [bifT (bleT z)]
          exact ⟨by decide, by decide⟩
        · rw [bifF (bleF z)]
          exact ⟨s1, by omega⟩
      generalize (bif s.ble 3 then 3 else s) = x0 at hm st ⊢
      have n1' : n < 1152921504606846976 := n1
      have st1 : x0 < 1152921504606846976 := st.1
      refine ⟨fun t σ H' => ∃ (f x : Nat), σ = [some (.int (n : Int)), some (.int (s : Int)), some (.int (x : Int))] ∧ t = f ∧ H' = H ∧ 0 < x ∧ leastL n f x = some q, ⟨_, n, x0, rfl, rfl, rfl, st.2, hm⟩, ?_⟩
      rintro t σ H' ⟨f, x, rfl, rfl, rfl, x2, hr⟩
      refine ⟨_, rfl, _, rfl, n, x, rfl, rfl, x2, _, _, rfl, rfl, _, rfl, ?_⟩
      obtain ⟨g, rfl⟩ : ∃ g, t = g + 1 := by
        cases t with
        | zero => cases hr
        | succ g => exact ⟨g, rfl⟩
      unfold leastL at hr
      refine wayN2 (fun h => ?_) (fun h => ?_)
      · have k0 : n % x ≠ 0 := by omega
        rw [bifF (beqF k0)] at hr
        refine ⟨fun σ' H2 => σ' = [some (.int (n : Int)), some (.int (s : Int)), some (.int ((x + 2 : Nat) : Int))] ∧ H2 = H', ?_, ?_⟩
        · rintro σ' H2 ⟨e1, e2⟩
          exact ⟨g, by omega, g, x + 2, e1, rfl, e2, by omega, hr⟩
        · exact ⟨_, rfl, x, 2, rfl, rfl, rfl, rfl⟩
      · have k0 : n % x = 0 := by omega
        rw [bifT (beqT k0)] at hr
        cases hr
        exact ⟨_, rfl, Qd⟩
def spPrimeParts (_ : PySem.W.Frag) : Sp := fun vs H Q _ => ∃ (n : Nat) (l : List (Nat × Nat)), vs = [.int (n : Int)] ∧ 0 < n ∧ n < 2 ^ 59 ∧ ppM n = some l ∧
  ∀ H' r as, Same H H' → H r = none → H' r = some (.lst (as.map V.ref)) → Prs H' as (nats l) → as.length ≤ 100 → Q (.ref r) H'
theorem leastL_dvd {n q : Nat} : ∀ {f x : Nat}, 0 < x → leastL n f x = some q → n % q = 0 ∧ x ≤ q
  | 0, x, _, h => by cases h
  | f + 1, x, h0, h => by
    unfold leastL at h
    by_cases e : n % x = 0
    · rw [bifT (beqT e)] at h
      cases h
      exact ⟨e, Nat.le_refl _⟩
    · rw [bifF (beqF e)] at h
      obtain ⟨a, b⟩ := leastL_dvd (by omega) h
      exact ⟨a, by omega⟩
theorem leastM_dvd {n s q : Nat} (h : leastM n s = some q) : n % q = 0 ∧ 2 ≤ q := by
  unfold leastM at h
  by_cases e : n % 2 = 0
  · rw [bifT (beqT e)] at h
    cases h
    exact ⟨e, Nat.le_refl _⟩
  · rw [bifF (beqF e)] at h
    have z : 3 ≤ (bif s.ble 3 then 3 else s) := by
      by_cases y : s ≤ 3
      · rw [bifT (bleT y)]
        exact Nat.le_refl _
      · rw [bifF (bleF y)]
        omega
    obtain ⟨a, b⟩ := leastL_dvd (by omega) h
    exact ⟨a, by omega⟩
theorem okPrimeParts (T : Txt K mg fa fd) : FnOk P w K mg base CX0 4 (fa 9) (fd 9) ["n"] (spPrimeParts K) := by
  refine T.F_prime_parts.ok scPrimeParts (fun vs H Q E h => ?_) (fun cdv A outer s H vs Q E hr h => ?_)
  · obtain ⟨n, l, rfl, n0, n1, hm, q⟩ := h
    rfl
  · obtain ⟨n, l, rfl, n0, n1, hm, q⟩ := h
    refine ⟨_, (pss_cons (ps_set (i := 1) scPrimeParts.nd rfl (Or.inl rfl) (pe_lst pa_nil))
      (pss_cons (ps_set (i := 2) scPrimeParts.nd rfl (Or.inl rfl) (pv 0))
      (pss_cons (ps_set (i := 3) scPrimeParts.nd rfl (Or.inl rfl) pe_int)
      (pss_cons (ps_while PassesOwn.never (pt_cmp (pc_gt (pv 2) pe_int))
      (C8.pss_cut (ps_set (i := 3) scPrimeParts.nd rfl (Or.inl rfl) (pe_ifExp (pt_val (pe_call (sp := spIsPrime K) (okIsPrime T) hr (by rfl) T.G_is_prime T.F_is_prime.kp T.B_is_prime .nil pass0 (pa_cons (pv 2) pa_nil))) (pv 2) (pe_call (sp := spLeastMeasure K) (okLeastMeasure T) (hr.mono (by decide)) (by rfl) T.G__least_measure T.F__least_measure.kp T.B__least_measure .nil pass0 (pa_cons (pv 2) (pa_cons (pv 3) pa_nil)))))
        (pss_cons (ps_asg (pe_call (sp := spTakenOut K) (okTakenOut T) (hr.mono (by decide)) (by rfl) T.G_taken_out T.F_taken_out.kp T.B_taken_out .nil pass0 (pa_cons (pv 2) (pa_cons (pv 3) pa_nil))) (pgT K 2 (by rfl) (pgs_cons (pg_name (i := 4) scPrimeParts.nd rfl (Or.inl rfl)) (pgs_cons (pg_name (i := 2) scPrimeParts.nd rfl (Or.inl rfl)) pgs_nil))))
        (pss_one (ps_expr (pe_bm PySem.F.plainAttrs_list PySem.F.slot_list_append PySem.F.type_list_append mt_append (pv 1) (pa_cons (pe_tup (pa_cons (pv 3) (pa_cons (pv 4) pa_nil))) pa_nil)))))))
      (pss_one (ps_ret (pv 1))))))), ?_⟩
    refine ⟨Nat.zero_le _, fun r nr => ?_⟩
    have n1' : n < 576460752303423488 := n1
    refine ⟨_, rfl, fun t σ H' => ∃ (f x p : Nat) (x4 : Option V) (as : List Addr) (done rest : List (Nat × Nat)), σ = [some (.int (n : Int)), some (.ref r), some (.int (x : Int)), some (.int (p : Int)), x4] ∧ t = f ∧ Same H H' ∧ H' r = some (.lst (as.map V.ref)) ∧ Prs H' as (nats done) ∧ 0 < x ∧ x ≤ n ∧ 0 < p ∧ p ≤ n + 2 ∧ done.length + f = 70 ∧ ppL f x p = some rest ∧ l = done ++ rest,
      ⟨70, 70, n, 2, none, [], [], l, rfl, rfl, same_upd nr, upd_same, .nil, n0, Nat.le_refl _, by omega, by omega, rfl, hm, rfl⟩, ?_⟩
    rintro t σ H' ⟨f, x, p, x4, as, done, rest, rfl, rfl, hs, hr, hp, x0, x1, p0, p1, hl, hpp, hll⟩
    obtain ⟨g, rfl⟩ : ∃ g, t = g + 1 := by
      cases t with
      | zero => cases hpp
      | succ g => exact ⟨g, rfl⟩
    unfold ppL at hpp
    refine ⟨_, rfl, _, _, rfl, rfl, _, rfl, way2 (fun h => ?_) (fun h => ?_)⟩
    · have e : ¬ x ≤ 1 := by omega
      rw [bifF (bleF e)] at hpp
      refine ⟨fun σ' H2 => ∃ (f x p : Nat) (x4 : Option V) (as : List Addr) (done rest : List (Nat × Nat)), σ' = [some (.int (n : Int)), some (.ref r), some (.int (x : Int)), some (.int (p : Int)), x4] ∧ f < g + 1 ∧ Same H H2 ∧ H2 r = some (.lst (as.map V.ref)) ∧ Prs H2 as (nats done) ∧ 0 < x ∧ x ≤ n ∧ 0 < p ∧ p ≤ n + 2 ∧ done.length + f = 70 ∧ ppL f x p = some rest ∧ l = done ++ rest, ?_, ?_⟩
      · rintro σ' H2 ⟨f, x, p, x4, as, done, rest, e1, e2, e3⟩
        exact ⟨f, e2, f, x, p, x4, as, done, rest, e1, rfl, e3⟩
      · cases hq : (bif isPrimeM x then some x else leastM x p) with
        | none =>
          rw [hq] at hpp
          cases hpp
        | some q2 =>
          rw [hq] at hpp
          refine ⟨fun σ' H2 => σ' = [some (.int (n : Int)), some (.ref r), some (.int (x : Int)), some (.int (q2 : Int)), x4] ∧ Same H' H2, ?_, ?_⟩
          · refine ⟨_, rfl, x, rfl, by show x < 1152921504606846976; omega, fun H3 s3 => ⟨_, rfl, ?_⟩⟩
            cases hi : isPrimeM x with
            | true =>
              rw [hi] at hq
              cases hq
              exact iteT ⟨_, rfl, rfl, s3⟩
            | false =>
              rw [hi] at hq
              exact iteF ⟨_, rfl, _, rfl, x, p, q2, rfl, by show x < 1152921504606846976; omega, by show p < 1152921504606846976; omega, hq, rfl, s3⟩
          · rintro σ' H2 ⟨rfl, s2⟩
            have q0 : x % q2 = 0 ∧ 2 ≤ q2 := by
              cases hi : isPrimeM x with
              | true =>
                rw [hi] at hq
                cases hq
                exact ⟨Nat.mod_self x, by omega⟩
              | false =>
                rw [hi] at hq
                exact leastM_dvd hq
            have q1 : q2 ≤ x := Nat.le_of_dvd x0 (Nat.dvd_of_mod_eq_zero q0.1)
            have x64 : x < 2 ^ 64 := by show x < 18446744073709551616; omega
            have q64 : q2 < 2 ^ 64 := Nat.lt_of_le_of_lt q1 x64
            refine ⟨_, rfl, _, rfl, x, q2, rfl, x0, x64, q0.2, q64, fun u nu => ?_⟩
            have su := same_upd (o := .tup [.int ((takenOut x q2).1 : Int), .int ((takenOut x q2).2 : Int)]) nu
            refine ⟨u, _, rfl, SqT.of upd_same, rfl, _, _, rfl, _, _, rfl, rfl, ?_⟩
            have od := toL_pos (p := q2) q0.2 (f := 64) (k := 0) x0
            change 0 < (takenOut x q2).2 ∧ (takenOut x q2).2 ≤ x at od
            have hr2 := su _ _ (s2 _ _ hr)
            refine ⟨_, rfl, .inl ⟨rfl, _, SqL.of hr2⟩, _, rfl, _, rfl, by show 2 ≤ sizeLine; decide, fun w nw => ?_⟩
            have sw := same_upd (o := .tup [.int (q2 : Int), .int ((takenOut x q2).1 : Int)]) nw
            have hr3 := sw _ _ hr2
            refine ⟨_, _, _, rfl, rfl, hr3, ?_, ?_⟩
            · rw [List.length_map, hp.len]
              unfold nats
              rw [List.length_map]
              exact small1000 (by omega)
            cases hl2 : ppL g (takenOut x q2).2 q2 with
            | none =>
              simp only [hl2] at hpp
              cases hpp
            | some l2 =>
              simp only [hl2] at hpp
              cases hpp
              have sall := (s2.trans su).trans sw
              refine ⟨g, (takenOut x q2).2, q2, _, as ++ [w], done ++ [(q2, (takenOut x q2).1)], l2, rfl, by omega, same_mut (hs.trans sall) nr, ?_, ?_, od.1, by omega, by omega, by omega, ?_, hl2, ?_⟩
              · rw [upd_same, List.map_append]
                rfl
              · have e7 : nats (done ++ [(q2, (takenOut x q2).1)]) = nats done ++ [((q2 : Int), ((takenOut x q2).1 : Int))] := by
                  unfold nats
                  rw [List.map_append]
                  rfl
                rw [e7]
                refine ((hp.same sall).mono fun b xs e2 => ?_).snoc ?_
                · rw [upd_ne (ne_of e2 hr3 (by intro z; cases z))]
                  exact e2
                · rw [upd_ne (ne_of upd_same hr3 (by intro z; cases z))]
                  exact upd_same
              · rw [List.length_append, List.length_cons, List.length_nil]
                omega
              · rw [hll, List.append_assoc]
                rfl
    · have e : x ≤ 1 := by omega
      rw [bifT (bleT e)] at hpp
      cases hpp
      rw [List.append_nil] at hll
      subst hll
      refine ⟨_, rfl, q H' r as hs nr hr hp ?_⟩
      rw [hp.len]
      unfold nats
      rw [List.length_map]
      omega
def spProducts (_ : PySem.W.Frag) : Sp := fun vs H Q _ => ∃ (A : Addr) (as : List Addr) (l : List (Nat × Nat)), vs = [.ref A] ∧ H A = some (.lst (as.map V.ref)) ∧ Prs H as (nats l) ∧ PrdOk l ∧
  ∀ H' r, Same H H' → H r = none → H' r = some (.lst ((prdL l).map V.int)) → Q (.ref r) H'
theorem okProducts (T : Txt K mg fa fd) : FnOk P w K mg base CX0 2 (fa 11) (fd 11) ["parts"] (spProducts K) := by
  refine T.F_products.ok scProducts (fun vs H Q E h => ?_) (fun cdv A outer s H vs Q E hr h => ?_)
  · obtain ⟨A, as, l, rfl, hA, hP, ok, kk⟩ := h
    rfl
  · obtain ⟨A, as, l, rfl, hA, hP, ok, kk⟩ := h
    refine ⟨_, (pss_cons (ps_set (i := 1) scProducts.nd rfl (Or.inl rfl) (pe_lst (pa_cons pe_int pa_nil)))
      (pss_cons (ps_for PassesOwn.never rfl (piL K (pv 0)) (pgT K 2 (by rfl) (pgs_cons (pg_name (i := 2) scProducts.nd rfl (Or.inr rfl)) (pgs_cons (pg_name (i := 3) scProducts.nd rfl (Or.inl rfl)) pgs_nil)))
      (pss_cons (ps_set (i := 4) scProducts.nd rfl (Or.inr rfl) (pe_lc (own := [("k", 5)]) (g := gName 5) (tt := tYes) rfl scProducts.nd (pi_range1 (by rfl) T.m_range (pa_cons (pe_op op_add (pv 3) pe_int) pa_nil)) (blkOk_by (own := [("k", 5)]) (N := ["parts", "found", "p", "many", "powers", "k", "g", "part"]) (sc := defScope sProducts) (by decide +kernel)) (fun _ _ _ _ _ => (pg_name (i := 5) scProducts.nd rfl (Or.inl rfl))) (fun _ _ _ _ _ => pts_nil) (fun _ _ _ _ _ => (pe_call (sp := spPower K) (okPower T) hr (by rfl) T.G_power T.F_power.kp T.B_power .nil pass0 (pa_cons (pv 2) (pa_cons (pv 5) pa_nil))))))
        (pss_one (ps_setLc2 (i := 1) (own := [("g", 6), ("part", 7)]) (vs1 := [7]) (g := gName 6) (g1 := gName 7) (tt := tYes) (tt1 := tYes) rfl scProducts.nd rfl rfl (sw_true rfl rfl rfl (by decide +kernel)) (piL K (pv 1)) (blkOk_by (own := [("g", 6), ("part", 7)]) (N := ["parts", "found", "p", "many", "powers", "k", "g", "part"]) (sc := defScope sProducts) (by decide +kernel)) (by decide) (fun _ _ _ _ _ => (pg_name (i := 6) scProducts.nd rfl (Or.inl rfl))) (fun _ _ _ _ _ => pts_nil) (fun _ _ _ _ _ => (piL K (pv 4))) (fun _ _ _ _ _ => (pg_name (i := 7) scProducts.nd rfl (Or.inl rfl))) (fun _ _ _ _ _ => pts_nil) (fun _ _ _ _ _ => (pe_op op_mulW (pv 6) (pv 7)))))))
      (pss_one (ps_ret (pv 1))))), ?_⟩
    clean_wf
    refine R.refs (S := SqL K _) (xs := as.map V.ref) (SqL.of (sn _ _ hA)) ?_
    refine for_list (K := K) (a := A) (xs := as.map V.ref) (fun i σ H' => ∃ (f : Addr) (x2 x3 x4 x5 x6 x7 : Option V), σ = [some (.ref A), some (.ref f), x2, x3, x4, x5, x6, x7] ∧ Same H H' ∧ H f = none ∧ H' f = some (.lst ((prdL (l.take i)).map V.int)))
      ⟨tn, _, _, _, _, _, _, rfl, sn, nn, ht⟩ (fun i σ H' hi hPv => ?_) (fun i x σ H' hx hPv => ?_) (fun σ H' hPv => ?_)
    · obtain ⟨f, x2, x3, x4, x5, x6, x7, rfl, sm, nf, hf⟩ := hPv
      exact SqL.of (sm _ _ hA)
    · obtain ⟨f, x2, x3, x4, x5, x6, x7, rfl, sm, nf, hf⟩ := hPv
      rw [List.getElem?_map] at hx
      cases ha : as[i]? with
      | none =>
        rw [ha] at hx
        cases hx
      | some t =>
        rw [ha] at hx
        cases hx
        have il : i < l.length := by
          have h1 := (List.getElem?_eq_some_iff.mp ha).1
          have h2 := hP.len
          unfold nats at h2
          rw [List.length_map] at h2
          omega
        obtain ⟨⟨p, k⟩, hpk⟩ : ∃ pk, l[i]? = some pk := ⟨_, List.getElem?_eq_getElem il⟩
        have hn : (nats l)[i]? = some ((p : Int), (k : Int)) := by
          unfold nats
          rw [List.getElem?_map, hpk]
          rfl
        obtain ⟨t', ht1, ht2⟩ := hP.at hn
        rw [ha] at ht1
        cases ht1
        obtain ⟨p1, k1⟩ := ok.p (p, k) (List.mem_of_getElem? hpk)
        have p1' : p < 1152921504606846976 := p1
        have st : SqT K H' t [.int (p : Int), .int (k : Int)] := SqT.of (sm _ _ ht2)
        have tk : l.take (i + 1) = l.take i ++ [(p, k)] := by
          rw [List.take_add_one, hpk]
          rfl
        have hL := ok.len (i + 1)
        have hB := ok.bd i
        have hB1 := ok.bd (i + 1)
        rw [tk, prdL_snoc] at hL hB1
        rw [tk, prdL_snoc]
        generalize prdL (l.take i) = F at *
        have hPw : ∀ q ∈ pwL p k, ∀ g ∈ F, g * q ∈ prdS F (p, k) := fun q hq g hg => List.mem_flatMap.mpr ⟨g, hg, List.mem_map.mpr ⟨q, hq, rfl⟩⟩
        clean_wf
        refine R.lcFR (lo := 0) (n := ((k : Int) + 1).toNat) (fun _ => true) (fun x => ((p ^ x.toNat : Nat) : Int)) (by omega) (fun j H2 C' E' hj s2 c1 c2 => ?_) (fun H2 D hD s2 nD => ?_)
        · have z := c1 rfl
          rw [show (0 + (j : Int)).toNat = j by omega] at z
          clean_wf
          refine ⟨rfl, R.yes ?_⟩
          clean_wf
          exact ⟨p, j, by rw [Int.zero_add]; rfl, by omega, by show j < 1152921504606846976; omega, z⟩
        · rw [rgI_pw] at hD
          have hf2 := s2 _ _ hf
          have sm2 := sm.trans s2
          clear hf hA hP st ht2 hn
          clean_wf
          refine ⟨_, rfl, f, rfl, ⟨_, SqL.of hf2⟩, fun D2 nD2 => ?_⟩
          refine out_list (K := K) (a := f) (xs := F.map V.int) (fun m H3 => Same H2 H3 ∧ H3 D2 = some (.lst (((F.take m).flatMap fun y => (pwL p k).map (y * ·)).map V.int))) ⟨same_upd nD2, upd_same⟩ (fun m H3 hm ⟨a1, a2⟩ => SqL.of (a1 _ _ hf2)) (fun m x H3 hx ⟨a1, a2⟩ => ?_) (fun H3 ⟨a1, a2⟩ => ?_)
          · rw [List.getElem?_map] at hx
            cases hn2 : F[m]? with
            | none =>
              rw [hn2] at hx
              cases hx
            | some y =>
              rw [hn2] at hx
              cases hx
              have tk2 : F.take (m + 1) = F.take m ++ [y] := by
                rw [List.take_add_one, hn2]
                rfl
              have by' := hB y (List.mem_of_getElem? hn2)
              refine ⟨rfl, ?_⟩
              dsimp only [tYes]
              rw [if_pos rfl]
              refine ⟨_, rfl, D, rfl, ⟨_, SqL.of (a1 _ _ hD)⟩, ?_⟩
              refine out_list (K := K) (a := D) (xs := (pwL p k).map V.int) (fun t H4 => Same H2 H4 ∧ H4 D2 = some (.lst ((((F.take m).flatMap fun y => (pwL p k).map (y * ·)) ++ ((pwL p k).take t).map (y * ·)).map V.int))) ⟨a1, ?_⟩ (fun t H4 ht ⟨c1, c2⟩ => SqL.of (c1 _ _ hD)) (fun t x H4 hx ⟨c1, c2⟩ => ?_) (fun H4 ⟨c1, c2⟩ => ⟨c1, ?_⟩)
              · rw [a2]
                simp
              · rw [List.getElem?_map] at hx
                cases hn3 : (pwL p k)[t]? with
                | none =>
                  rw [hn3] at hx
                  cases hx
                | some o =>
                  rw [hn3] at hx
                  cases hx
                  have tk3 : (pwL p k).take (t + 1) = (pwL p k).take t ++ [o] := by
                    rw [List.take_add_one, hn3]
                    rfl
                  have bo : Bd 60000 o := by
                    have ho := List.mem_of_getElem? hn3
                    unfold pwL at ho
                    obtain ⟨j, hj, rfl⟩ := List.mem_map.mp ho
                    have hj := List.mem_range.mp hj
                    show (((p ^ j : Nat) : Int)).natAbs < 2 ^ 60000
                    rw [Int.natAbs_natCast]
                    refine Nat.lt_of_le_of_lt (Nat.pow_le_pow_left (Nat.le_of_lt p1) j) ?_
                    rw [← Nat.pow_mul]
                    exact Nat.pow_lt_pow_right (by decide) (by omega)
                  refine ⟨rfl, ?_⟩
                  dsimp only [tYes]
                  rw [if_pos rfl]
                  refine ⟨_, rfl, _, rfl, _, _, rfl, rfl, by'.mulW bo (by decide), _, c2, ?_, fun b o e => ?_, ?_⟩
                  · rw [List.length_map, List.length_append, List.length_map, List.length_take]
                    have l1 : ((F.take m).flatMap fun y => (pwL p k).map (y * ·)).length = (F.take m).length * (k + 1) := prdS_len _ (p, k)
                    rw [prdS_len] at hL
                    rw [l1, List.length_take, pwL_len]
                    have l0 : m < F.length := (List.getElem?_eq_some_iff.mp hn2).1
                    have t0 : t < (pwL p k).length := (List.getElem?_eq_some_iff.mp hn3).1
                    rw [pwL_len] at t0
                    have l2 : (m + 1) * (k + 1) ≤ F.length * (k + 1) := Nat.mul_le_mul_right _ l0
                    rw [Nat.min_eq_left (by omega), Nat.min_eq_left (by omega)]
                    rw [Nat.succ_mul] at l2
                    replace hL : F.length * (k + 1) ≤ 100000 := hL
                    exact Nat.lt_of_lt_of_le (show m * (k + 1) + t < 100001 by omega) (by decide)
                  · rw [upd_ne (ne_of_none e nD2)]
                    exact c1 _ _ e
                  · have e5 : ((F.take m).flatMap fun y => (pwL p k).map (y * ·)) ++ ((pwL p k).take (t + 1)).map (y * ·) = (((F.take m).flatMap fun y => (pwL p k).map (y * ·)) ++ ((pwL p k).take t).map (y * ·)) ++ [y * o] := by
                      rw [tk3, List.map_append, List.append_assoc]
                      rfl
                    rw [upd_same, e5]
                    exact congrArg (fun z => some (HO.lst z)) (List.map_append (f := V.int) (l₂ := [y * o])).symm
              · rw [List.length_map, List.take_length] at c2
                rw [c2, tk2, List.flatMap_append, List.flatMap_cons, List.flatMap_nil, List.append_nil]
          · rw [List.length_map, List.take_length] at a2
            clean_wf
            refine ⟨D2, _, _, _, _, _, _, rfl, sm2.trans a1, Same.free sm2 nD2, a2⟩
    · obtain ⟨f, x2, x3, x4, x5, x6, x7, rfl, sm, nf, hf⟩ := hPv
      have el : l.take (as.map V.ref).length = l := by
        have h2 := hP.len
        unfold nats at h2
        rw [List.length_map] at h2
        rw [List.length_map, h2]
        exact List.take_length
      rw [el] at hf
      clean_wf
      exact kk _ _ sm nf hf
def spDiscriminant (K : PySem.W.Frag) : Sp := fun vs H Q _ => ∃ (aform : Addr) (a b c : Int) (N : Nat), vs = [.ref aform] ∧ SqT K H aform [.int a, .int b, .int c] ∧ Bd N a ∧ Bd N b ∧ Bd N c ∧ N ≤ 400000 ∧ (Q (.int (b * b - 4 * a * c)) H)
theorem uDiscriminant {K : PySem.W.Frag} {H : Hp} {Q : VK} {E : XK} {vs : List V} {aform : Addr} {a b c : Int} {n0 n1 n2 : Nat} (hev : vs = [.ref aform]) (s0 : SqT K H aform [.int a, .int b, .int c]) (b0 : Bd n0 a) (b1 : Bd n1 b) (b2 : Bd n2 c) (hll : (n0 + n1 + n2 ≤ 400000) = True) (kk : Q (.int (b * b - 4 * a * c)) H) : spDiscriminant K vs H Q E :=
  have hll := of_eq_true hll
  ⟨aform, a, b, c, n0 + n1 + n2, hev, s0, b0.mono (by omega), b1.mono (by omega), b2.mono (by omega), hll, kk⟩
theorem okDiscriminant (T : Txt K mg fa fd) : FnOk P w K mg base CX0 1 (fa 12) (fd 12) ["form"] (spDiscriminant K) := by
  refine T.F_discriminant.ok scDiscriminant (fun vs H Q E h => ?_) (fun cdv A outer s H vs Q E hr h => ?_)
  · obtain ⟨aform, a, b, c, N, rfl, h_aform, b_a, b_b, b_c, hN, kk⟩ := h
    rfl
  · obtain ⟨aform, a, b, c, N, rfl, h_aform, b_a, b_b, b_c, hN, kk⟩ := h
    refine ⟨_, (pss_cons (ps_asg (pv 0) (pgT K 3 (by rfl) (pgs_cons (pg_name (i := 1) scDiscriminant.nd rfl (Or.inl rfl)) (pgs_cons (pg_name (i := 2) scDiscriminant.nd rfl (Or.inl rfl)) (pgs_cons (pg_name (i := 3) scDiscriminant.nd rfl (Or.inl rfl)) pgs_nil)))))
      (pss_one (ps_ret (pe_op op_sub (pe_op op_mulW (pv 2) (pv 2)) (pe_op op_mulW (pe_op op_mulW pe_int (pv 1)) (pv 3)))))), ?_⟩
    clean_wf
    all_goals first | omega | exact kk | (refine kk _ _ ?_ (by assumption); (repeat' (first | with_reducible exact Same.refl _ | with_reducible assumption | ((with_reducible apply sameB); with_reducible assumption))))
def spWorth (K : PySem.W.Frag) : Sp := fun vs H Q _ => ∃ (aform apoint : Addr) (a b c x y : Int) (N : Nat), vs = [.ref aform, .ref apoint] ∧ SqT K H aform [.int a, .int b, .int c] ∧ SqT K H apoint [.int x, .int y] ∧ Bd N a ∧ Bd N b ∧ Bd N c ∧ Bd N x ∧ Bd N y ∧ N ≤ 300000 ∧ (Q (.int (a * x * x + b * x * y + c * y * y)) H)
theorem uWorth {K : PySem.W.Frag} {H : Hp} {Q : VK} {E : XK} {vs : List V} {aform apoint : Addr} {a b c x y : Int} {n0 n1 n2 n3 n4 : Nat} (hev : vs = [.ref aform, .ref apoint]) (s0 : SqT K H aform [.int a, .int b, .int c]) (s1 : SqT K H apoint [.int x, .int y]) (b0 : Bd n0 a) (b1 : Bd n1 b) (b2 : Bd n2 c) (b3 : Bd n3 x) (b4 : Bd n4 y) (hll : (n0 + n1 + n2 + n3 + n4 ≤ 300000) = True) (kk : Q (.int (a * x * x + b * x * y + c * y * y)) H) : spWorth K vs H Q E :=
  have hll := of_eq_true hll
  ⟨aform, apoint, a, b, c, x, y, n0 + n1 + n2 + n3 + n4, hev, s0, s1, b0.mono (by omega), b1.mono (by omega), b2.mono (by omega), b3.mono (by omega), b4.mono (by omega), hll, kk⟩
theorem okWorth (T : Txt K mg fa fd) : FnOk P w K mg base CX0 1 (fa 13) (fd 13) ["form", "point"] (spWorth K) := by
  refine T.F_worth.ok scWorth (fun vs H Q E h => ?_) (fun cdv A outer s H vs Q E hr h => ?_)
  · obtain ⟨aform, apoint, a, b, c, x, y, N, rfl, h_aform, h_apoint, b_a, b_b, b_c, b_x, b_y, hN, kk⟩ := h
    rfl
  · obtain ⟨aform, apoint, a, b, c, x, y, N, rfl, h_aform, h_apoint, b_a, b_b, b_c, b_x, b_y, hN, kk⟩ := h
    refine ⟨_, (pss_cons (ps_asg (pv 0) (pgT K 3 (by rfl) (pgs_cons (pg_name (i := 2) scWorth.nd rfl (Or.inl rfl)) (pgs_cons (pg_name (i := 3) scWorth.nd rfl (Or.inl rfl)) (pgs_cons (pg_name (i := 4) scWorth.nd rfl (Or.inl rfl)) pgs_nil)))))
      (pss_cons (ps_asg (pv 1) (pgT K 2 (by rfl) (pgs_cons (pg_name (i := 5) scWorth.nd rfl (Or.inl rfl)) (pgs_cons (pg_name (i := 6) scWorth.nd rfl (Or.inl rfl)) pgs_nil))))
      (pss_one (ps_ret (pe_op op_add (pe_op op_add (pe_op op_mulW (pe_op op_mulW (pv 2) (pv 5)) (pv 5)) (pe_op op_mulW (pe_op op_mulW (pv 3) (pv 5)) (pv 6))) (pe_op op_mulW (pe_op op_mulW (pv 4) (pv 6)) (pv 6))))))), ?_⟩
    clean_wf
    all_goals first | omega | exact kk | (refine kk _ _ ?_ (by assumption); (repeat' (first | with_reducible exact Same.refl _ | with_reducible assumption | ((with_reducible apply sameB); with_reducible assumption))))
def spAct (K : PySem.W.Frag) : Sp := fun vs H Q _ => ∃ (aform am : Addr) (a b c p q r s : Int) (N : Nat), vs = [.ref aform, .ref am] ∧ SqT K H aform [.int a, .int b, .int c] ∧ SqT K H am [.int p, .int q, .int r, .int s] ∧ Bd N a ∧ Bd N b ∧ Bd N c ∧ Bd N p ∧ Bd N q ∧ Bd N r ∧ Bd N s ∧ N ≤ 40000 ∧ (R.Nw H [.int (a * p * p + b * p * r + c * r * r), .int (2 * a * p * q + b * (p * s + q * r) + 2 * c * r * s), .int (a * q * q + b * q * s + c * s * s)] Q)
theorem uAct {K : PySem.W.Frag} {H : Hp} {Q : VK} {E : XK} {vs : List V} {aform am : Addr} {a b c p q r s : Int} {n0 n1 n2 n3 n4 n5 n6 : Nat} (hev : vs = [.ref aform, .ref am]) (s0 : SqT K H aform [.int a, .int b, .int c]) (s1 : SqT K H am [.int p, .int q, .int r, .int s]) (b0 : Bd n0 a) (b1 : Bd n1 b) (b2 : Bd n2 c) (b3 : Bd n3 p) (b4 : Bd n4 q) (b5 : Bd n5 r) (b6 : Bd n6 s) (hll : (n0 + n1 + n2 + n3 + n4 + n5 + n6 ≤ 40000) = True) (kk : R.Nw H [.int (a * p * p + b * p * r + c * r * r), .int (2 * a * p * q + b * (p * s + q * r) + 2 * c * r * s), .int (a * q * q + b * q * s + c * s * s)] Q) : spAct K vs H Q E :=
  have hll := of_eq_true hll
  ⟨aform, am, a, b, c, p, q, r, s, n0 + n1 + n2 + n3 + n4 + n5 + n6, hev, s0, s1, b0.mono (by omega), b1.mono (by omega), b2.mono (by omega), b3.mono (by omega), b4.mono (by omega), b5.mono (by omega), b6.mono (by omega), hll, kk⟩
theorem okAct (T : Txt K mg fa fd) : FnOk P w K mg base CX0 2 (fa 14) (fd 14) ["form", "m"] (spAct K) := by
  refine T.F_act.ok scAct (fun vs H Q E h => ?_) (fun cdv A outer s H vs Q E hr h => ?_)
  · obtain ⟨aform, am, a, b, c, p, q, r, s, N, rfl, h_aform, h_am, b_a, b_b, b_c, b_p, b_q, b_r, b_s, hN, kk⟩ := h
    rfl
  · obtain ⟨aform, am, a, b, c, p, q, r, s, N, rfl, h_aform, h_am, b_a, b_b, b_c, b_p, b_q, b_r, b_s, hN, kk⟩ := h
    refine ⟨_, (pss_cons (ps_asg (pv 0) (pgT K 3 (by rfl) (pgs_cons (pg_name (i := 2) scAct.nd rfl (Or.inl rfl)) (pgs_cons (pg_name (i := 3) scAct.nd rfl (Or.inl rfl)) (pgs_cons (pg_name (i := 4) scAct.nd rfl (Or.inl rfl)) pgs_nil)))))
      (pss_cons (ps_asg (pv 1) (pgT K 4 (by rfl) (pgs_cons (pg_name (i := 5) scAct.nd rfl (Or.inl rfl)) (pgs_cons (pg_name (i := 6) scAct.nd rfl (Or.inl rfl)) (pgs_cons (pg_name (i := 7) scAct.nd rfl (Or.inl rfl)) (pgs_cons (pg_name (i := 8) scAct.nd rfl (Or.inl rfl)) pgs_nil))))))
      (pss_cons (ps_set (i := 9) scAct.nd rfl (Or.inl rfl) (pe_op op_add (pe_op op_add (pe_op op_mulW (pe_op op_mulW (pe_op op_mulW pe_int (pv 2)) (pv 5)) (pv 6)) (pe_op op_mulW (pv 3) (pe_op op_add (pe_op op_mulW (pv 5) (pv 8)) (pe_op op_mulW (pv 6) (pv 7))))) (pe_op op_mulW (pe_op op_mulW (pe_op op_mulW pe_int (pv 4)) (pv 7)) (pv 8))))
      (pss_one (ps_ret (pe_tup (pa_cons (pe_call (sp := spWorth K) (okWorth T) hr (by rfl) T.G_worth T.F_worth.kp T.B_worth .nil pass0 (pa_cons (pv 0) (pa_cons (pe_tup (pa_cons (pv 5) (pa_cons (pv 7) pa_nil))) pa_nil))) (pa_cons (pv 9) (pa_cons (pe_call (sp := spWorth K) (okWorth T) hr (by rfl) T.G_worth T.F_worth.kp T.B_worth .nil pass0 (pa_cons (pv 0) (pa_cons (pe_tup (pa_cons (pv 6) (pa_cons (pv 8) pa_nil))) pa_nil))) pa_nil))))))))), ?_⟩
    clean_wf
    all_goals first | omega | exact kk | (refine kk _ _ ?_ (by assumption); (repeat' (first | with_reducible exact Same.refl _ | with_reducible assumption | ((with_reducible apply sameB); with_reducible assumption))))
def spKind (K : PySem.W.Frag) : Sp := fun vs H Q _ => ∃ (af : Addr) (a b c : Int), vs = [.ref af] ∧ SqT K H af [.int a, .int b, .int c] ∧ Bd 3000 a ∧ Bd 3000 b ∧ Bd 3000 c ∧ Q (.str (kindS (dsc a b c))) H
theorem uKind {K : PySem.W.Frag} {H : Hp} {Q : VK} {E : XK} {vs : List V} {af : Addr} {a b c : Int} (hev : vs = [.ref af]) (hs : SqT K H af [.int a, .int b, .int c]) (b1 : Bd 3000 a) (b2 : Bd 3000 b) (b3 : Bd 3000 c) (kk : Q (.str (kindS (dsc a b c))) H) : spKind K vs H Q E := ⟨af, a, b, c, hev, hs, b1, b2, b3, kk⟩
theorem kindS_lt {d : Int} (h : d < 0) : kindS d = "definite" := by unfold kindS; rw [if_pos h]
theorem kindS_eq {d : Int} (h : d = 0) : kindS d = "flat" := by unfold kindS; rw [if_neg (by omega), if_pos h]
theorem kindS_sq {d : Int} (h : ¬ d < 0) (h2 : ¬ d = 0) (h3 : 0 ≤ d ∧ rootI d * rootI d = d) : kindS d = "split" := by unfold kindS; rw [if_neg h, if_neg h2, if_pos h3.2]
theorem kindS_ns {d : Int} (h : ¬ d < 0) (h2 : ¬ d = 0) (h3 : ¬ (0 ≤ d ∧ rootI d * rootI d = d)) : kindS d = "indefinite" := by unfold kindS; rw [if_neg h, if_neg h2, if_neg (fun k => h3 ⟨by omega, k⟩)]
theorem okKind (T : Txt K mg fa fd) : FnOk P w K mg base CX0 3 (fa 15) (fd 15) ["form"] (spKind K) := by
  refine T.F_kind.ok scKind (fun vs H Q E h => ?_) (fun cdv A outer s H vs Q E hr h => ?_)
  · obtain ⟨af, a, b, c, rfl, hs, b1, b2, b3, kk⟩ := h
    rfl
  · obtain ⟨af, a, b, c, rfl, hs, b1, b2, b3, kk⟩ := h
    refine ⟨_, (pss_cons (ps_set (i := 1) scKind.nd rfl (Or.inl rfl) (pe_call (sp := spDiscriminant K) (okDiscriminant T) (hr.mono (by decide)) (by rfl) T.G_discriminant T.F_discriminant.kp T.B_discriminant .nil pass0 (pa_cons (pv 0) pa_nil)))
      (pss_cons (ps_if (pt_cmp (pc_lt (pv 1) pe_int))
      (pss_one (ps_ret pe_str))
      pss_nil)
      (pss_cons (ps_if (pt_cmp (pc_eqI (pv 1) pe_int))
      (pss_one (ps_ret pe_str))
      pss_nil)
      (pss_one (ps_ret (pe_ifExp (pt_val (pe_call (sp := spIsSquare K) (okIsSquare T) hr (by rfl) T.G_is_square T.F_is_square.kp T.B_is_square .nil pass0 (pa_cons (pv 1) pa_nil))) pe_str pe_str)))))), ?_⟩
    have bd : Bd 6010 (dsc a b c) := by unfold dsc; apply bdm; clean_wf
    have ed : b * b - 4 * a * c = dsc a b c := rfl
    clean_wf
    rw [ed]
    generalize dsc a b c = d at *
    refine way2 (fun z => ?_) (fun z => ?_)
    · rw [kindS_lt z] at kk
      clean_wf
    clean_wf
    refine way2 (fun z2 => ?_) (fun z2 => ?_)
    · rw [kindS_eq z2] at kk
      clean_wf
    clean_wf
    refine way2 (fun z3 => ?_) (fun z3 => ?_)
    · rw [kindS_sq z z2 z3] at kk
      clean_wf
    · rw [kindS_ns z z2 z3] at kk
      clean_wf
def spMultiply (K : PySem.W.Frag) : Sp := fun vs H Q _ => ∃ (am an : Addr) (p q r s p2 q2 r2 s2 : Int) (N : Nat), vs = [.ref am, .ref an] ∧ SqT K H am [.int p, .int q, .int r, .int s] ∧ SqT K H an [.int p2, .int q2, .int r2, .int s2] ∧ Bd N p ∧ Bd N q ∧ Bd N r ∧ Bd N s ∧ Bd N p2 ∧ Bd N q2 ∧ Bd N r2 ∧ Bd N s2 ∧ N ≤ 400000 ∧ (R.Nw H [.int (p * p2 + q * r2), .int (p * q2 + q * s2), .int (r * p2 + s * r2), .int (r * q2 + s * s2)] Q)
theorem uMultiply {K : PySem.W.Frag} {H : Hp} {Q : VK} {E : XK} {vs : List V} {am an : Addr} {p q r s p2 q2 r2 s2 : Int} {n0 n1 n2 n3 n4 n5 n6 n7 : Nat} (hev : vs = [.ref am, .ref an]) (s0 : SqT K H am [.int p, .int q, .int r, .int s]) (s1 : SqT K H an [.int p2, .int q2, .int r2, .int s2]) (b0 : Bd n0 p) (b1 : Bd n1 q) (b2 : Bd n2 r) (b3 : Bd n3 s) (b4 : Bd n4 p2) (b5 : Bd n5 q2) (b6 : Bd n6 r2) (b7 : Bd n7 s2) (hll : (n0 + n1 + n2 + n3 + n4 + n5 + n6 + n7 ≤ 400000) = True) (kk : R.Nw H [.int (p * p2 + q * r2), .int (p * q2 + q * s2), .int (r * p2 + s * r2), .int (r * q2 + s * s2)] Q) : spMultiply K vs H Q E :=
  have hll := of_eq_true hll
  ⟨am, an, p, q, r, s, p2, q2, r2, s2, n0 + n1 + n2 + n3 + n4 + n5 + n6 + n7, hev, s0, s1, b0.mono (by omega), b1.mono (by omega), b2.mono (by omega), b3.mono (by omega), b4.mono (by omega), b5.mono (by omega), b6.mono (by omega), b7.mono (by omega), hll, kk⟩
theorem okMultiply (T : Txt K mg fa fd) : FnOk P w K mg base CX0 1 (fa 16) (fd 16) ["m", "n"] (spMultiply K) := by
  refine T.F_multiply.ok scMultiply (fun vs H Q E h => ?_) (fun cdv A outer s H vs Q E hr h => ?_)
  · obtain ⟨am, an, p, q, r, s, p2, q2, r2, s2, N, rfl, h_am, h_an, b_p, b_q, b_r, b_s, b_p2, b_q2, b_r2, b_s2, hN, kk⟩ := h
    rfl
  · obtain ⟨am, an, p, q, r, s, p2, q2, r2, s2, N, rfl, h_am, h_an, b_p, b_q, b_r, b_s, b_p2, b_q2, b_r2, b_s2, hN, kk⟩ := h
    refine ⟨_, (pss_cons (ps_asg (pv 0) (pgT K 4 (by rfl) (pgs_cons (pg_name (i := 2) scMultiply.nd rfl (Or.inl rfl)) (pgs_cons (pg_name (i := 3) scMultiply.nd rfl (Or.inl rfl)) (pgs_cons (pg_name (i := 4) scMultiply.nd rfl (Or.inl rfl)) (pgs_cons (pg_name (i := 5) scMultiply.nd rfl (Or.inl rfl)) pgs_nil))))))
      (pss_cons (ps_asg (pv 1) (pgT K 4 (by rfl) (pgs_cons (pg_name (i := 6) scMultiply.nd rfl (Or.inl rfl)) (pgs_cons (pg_name (i := 7) scMultiply.nd rfl (Or.inl rfl)) (pgs_cons (pg_name (i := 8) scMultiply.nd rfl (Or.inl rfl)) (pgs_cons (pg_name (i := 9) scMultiply.nd rfl (Or.inl rfl)) pgs_nil))))))
      (pss_one (ps_ret (pe_tup (pa_cons (pe_op op_add (pe_op op_mulW (pv 2) (pv 6)) (pe_op op_mulW (pv 3) (pv 8))) (pa_cons (pe_op op_add (pe_op op_mulW (pv 2) (pv 7)) (pe_op op_mulW (pv 3) (pv 9))) (pa_cons (pe_op op_add (pe_op op_mulW (pv 4) (pv 6)) (pe_op op_mulW (pv 5) (pv 8))) (pa_cons (pe_op op_add (pe_op op_mulW (pv 4) (pv 7)) (pe_op op_mulW (pv 5) (pv 9))) pa_nil))))))))), ?_⟩
    clean_wf
    all_goals first | omega | exact kk | (refine kk _ _ ?_ (by assumption); (repeat' (first | with_reducible exact Same.refl _ | with_reducible assumption | ((with_reducible apply sameB); with_reducible assumption))))
def spApply (K : PySem.W.Frag) : Sp := fun vs H Q _ => ∃ (am apoint : Addr) (p q r s x y : Int) (N : Nat), vs = [.ref am, .ref apoint] ∧ SqT K H am [.int p, .int q, .int r, .int s] ∧ SqT K H apoint [.int x, .int y] ∧ Bd N p ∧ Bd N q ∧ Bd N r ∧ Bd N s ∧ Bd N x ∧ Bd N y ∧ N ≤ 400000 ∧ (R.Nw H [.int (p * x + q * y), .int (r * x + s * y)] Q)
theorem uApply {K : PySem.W.Frag} {H : Hp} {Q : VK} {E : XK} {vs : List V} {am apoint : Addr} {p q r s x y : Int} {n0 n1 n2 n3 n4 n5 : Nat} (hev : vs = [.ref am, .ref apoint]) (s0 : SqT K H am [.int p, .int q, .int r, .int s]) (s1 : SqT K H apoint [.int x, .int y]) (b0 : Bd n0 p) (b1 : Bd n1 q) (b2 : Bd n2 r) (b3 : Bd n3 s) (b4 : Bd n4 x) (b5 : Bd n5 y) (hll : (n0 + n1 + n2 + n3 + n4 + n5 ≤ 400000) = True) (kk : R.Nw H [.int (p * x + q * y), .int (r * x + s * y)] Q) : spApply K vs H Q E :=
  have hll := of_eq_true hll
  ⟨am, apoint, p, q, r, s, x, y, n0 + n1 + n2 + n3 + n4 + n5, hev, s0, s1, b0.mono (by omega), b1.mono (by omega), b2.mono (by omega), b3.mono (by omega), b4.mono (by omega), b5.mono (by omega), hll, kk⟩
theorem okApply (T : Txt K mg fa fd) : FnOk P w K mg base CX0 1 (fa 17) (fd 17) ["m", "point"] (spApply K) := by
  refine T.F_apply.ok scApply (fun vs H Q E h => ?_) (fun cdv A outer s H vs Q E hr h => ?_)
  · obtain ⟨am, apoint, p, q, r, s, x, y, N, rfl, h_am, h_apoint, b_p, b_q, b_r, b_s, b_x, b_y, hN, kk⟩ := h
    rfl
  · obtain ⟨am, apoint, p, q, r, s, x, y, N, rfl, h_am, h_apoint, b_p, b_q, b_r, b_s, b_x, b_y, hN, kk⟩ := h
    refine ⟨_, (pss_cons (ps_asg (pv 0) (pgT K 4 (by rfl) (pgs_cons (pg_name (i := 2) scApply.nd rfl (Or.inl rfl)) (pgs_cons (pg_name (i := 3) scApply.nd rfl (Or.inl rfl)) (pgs_cons (pg_name (i := 4) scApply.nd rfl (Or.inl rfl)) (pgs_cons (pg_name (i := 5) scApply.nd rfl (Or.inl rfl)) pgs_nil))))))
      (pss_cons (ps_asg (pv 1) (pgT K 2 (by rfl) (pgs_cons (pg_name (i := 6) scApply.nd rfl (Or.inl rfl)) (pgs_cons (pg_name (i := 7) scApply.nd rfl (Or.inl rfl)) pgs_nil))))
      (pss_one (ps_ret (pe_tup (pa_cons (pe_op op_add (pe_op op_mulW (pv 2) (pv 6)) (pe_op op_mulW (pv 3) (pv 7))) (pa_cons (pe_op op_add (pe_op op_mulW (pv 4) (pv 6)) (pe_op op_mulW (pv 5) (pv 7))) pa_nil))))))), ?_⟩
    clean_wf
    all_goals first | omega | exact kk | (refine kk _ _ ?_ (by assumption); (repeat' (first | with_reducible exact Same.refl _ | with_reducible assumption | ((with_reducible apply sameB); with_reducible assumption))))
def spCompleted (K : PySem.W.Frag) : Sp := fun vs H Q _ => ∃ (ap : Addr) (x y : Int), vs = [.ref ap] ∧ SqT K H ap [.int x, .int y] ∧ gI x y = 1 ∧ Bd 60 x ∧ Bd 60 y ∧ ∀ u v, u * x + v * y = 1 → Bd 9404 u → Bd 9404 v → R.Nw H [.int x, .int (-v), .int y, .int u] Q
theorem uCompleted {K : PySem.W.Frag} {H : Hp} {Q : VK} {E : XK} {vs : List V} {ap : Addr} {x y : Int} (e : vs = [.ref ap]) (hs : SqT K H ap [.int x, .int y]) (hg : gI x y = 1) (b1 : Bd 60 x) (b2 : Bd 60 y) (kk : ∀ u v, u * x + v * y = 1 → Bd 9404 u → Bd 9404 v → R.Nw H [.int x, .int (-v), .int y, .int u] Q) : spCompleted K vs H Q E := ⟨ap, x, y, e, hs, hg, b1, b2, kk⟩
theorem okCompleted (T : Txt K mg fa fd) : FnOk P w K mg base CX0 2 (fa 18) (fd 18) ["point"] (spCompleted K) := by
  refine T.F_completed.ok scCompleted (fun vs H Q E h => ?_) (fun cdv A outer s H vs Q E hr h => ?_)
  · obtain ⟨ap, x, y, rfl, hs, hg, b1, b2, kk⟩ := h
    rfl
  · obtain ⟨ap, x, y, rfl, hs, hg, b1, b2, kk⟩ := h
    refine ⟨_, (pss_cons (ps_asg (pv 0) (pgT K 2 (by rfl) (pgs_cons (pg_name (i := 1) scCompleted.nd rfl (Or.inl rfl)) (pgs_cons (pg_name (i := 2) scCompleted.nd rfl (Or.inl rfl)) pgs_nil))))
      (pss_cons (ps_asg (pe_call (sp := spBezout K) (okBezout T) hr (by rfl) T.G_bezout T.F_bezout.kp T.B_bezout .nil pass0 (pa_cons (pv 1) (pa_cons (pv 2) pa_nil))) (pgT K 3 (by rfl) (pgs_cons (pg_name (i := 3) scCompleted.nd rfl (Or.inl rfl)) (pgs_cons (pg_name (i := 4) scCompleted.nd rfl (Or.inl rfl)) (pgs_cons (pg_name (i := 5) scCompleted.nd rfl (Or.inl rfl)) pgs_nil)))))
      (pss_one (ps_ret (pe_tup (pa_cons (pv 1) (pa_cons (pe_un un_neg (pv 5)) (pa_cons (pv 2) (pa_cons (pv 4) pa_nil))))))))), ?_⟩
    have b1' : x.natAbs < 1152921504606846976 := b1
    have b2' : y.natAbs < 1152921504606846976 := b2
    clean_wf
    intro H' p u v sm hp e bu bv
    rw [hg] at e
    have k2 := kk u v e bu bv
    clean_wf
    refine k2 _ _ ?_ ht
    array_mem_dec
def spDirected (K : PySem.W.Frag) : Sp := fun vs H Q _ => ∃ x y : Int, vs = [.int x, .int y] ∧ (x ≠ 0 ∨ y ≠ 0) ∧ Bd 60 x ∧ Bd 60 y ∧ ∀ x' y', Dir x y x' y' → x'.natAbs ≤ x.natAbs → y'.natAbs ≤ y.natAbs → R.Nw H [.int x', .int y'] Q
theorem uDirected {K : PySem.W.Frag} {H : Hp} {Q : VK} {E : XK} {vs : List V} {x y : Int} (e : vs = [.int x, .int y]) (h : x ≠ 0 ∨ y ≠ 0) (b1 : Bd 60 x) (b2 : Bd 60 y) (kk : ∀ x' y', Dir x y x' y' → x'.natAbs ≤ x.natAbs → y'.natAbs ≤ y.natAbs → R.Nw H [.int x', .int y'] Q) : spDirected K vs H Q E := ⟨x, y, e, h, b1, b2, kk⟩
theorem okDirected (T : Txt K mg fa fd) : FnOk P w K mg base CX0 2 (fa 20) (fd 20) ["x", "y"] (spDirected K) := by
  refine T.F_directed.ok scDirected (fun vs H Q E h => ?_) (fun cdv A outer s H vs Q E hr h => ?_)
  · obtain ⟨x, y, rfl, h, b1, b2, kk⟩ := h
    rfl
  · obtain ⟨x, y, rfl, h, b1, b2, kk⟩ := h
    refine ⟨_, (pss_cons (ps_set (i := 2) scDirected.nd rfl (Or.inl rfl) (pe_call (sp := spMeasure K) (okMeasure T) hr (by rfl) T.G_measure T.F_measure.kp T.B_measure .nil pass0 (pa_cons (pe_tup (pa_cons (pv 0) (pa_cons (pv 1) pa_nil))) pa_nil)))
      (C8.pss_cut (ps_if (PW.pt (pw_or (pt_cmp (pc_lt (pv 0) pe_int)) (pw_or1 (PW.pt (pw_and (pt_cmp (pc_eqI (pv 0) pe_int)) (pw_and1 (pt_cmp (pc_lt (pv 1) pe_int))))))))
      (pss_one (ps_set (i := 2) scDirected.nd rfl (Or.inl rfl) (pe_un un_neg (pv 2))))
      pss_nil)
      (pss_one (ps_ret (pe_tup (pa_cons (pe_op op_fdivX (pv 0) (pv 2)) (pa_cons (pe_op op_fdivX (pv 1) (pv 2)) pa_nil))))))), ?_⟩
    clean_wf
    refine uMeasureT rfl (SqT.of ht) ?_
    obtain ⟨G, hG⟩ : ∃ G, G = gL [x, y] := ⟨_, rfl⟩
    rw [← hG]
    rw [gL_two] at hG
    have bG : Bd 60 G := by
      have b1' : x.natAbs < 1152921504606846976 := b1
      have b2' : y.natAbs < 1152921504606846976 := b2
      refine Bd.om ?_
      rcases h with h | h
      · have := Nat.gcd_le_left y.natAbs (show 0 < x.natAbs by omega)
        omega
      · have := Nat.gcd_le_right x.natAbs (show 0 < y.natAbs by omega)
        omega
    clean_wf
    refine R.cut (Mid := fun σ H' => ∃ g : Int, σ = [some (.int x), some (.int y), some (.int g)] ∧ H' = HN ∧ g = if x < 0 ∨ (x = 0 ∧ y < 0) then -G else G) ?_ (fun σ H' hM => ?_)
    · skip
      clean_wf
      refine way2 (fun z => ?_) (fun z => ?_)
      · skip
        clean_wf
        exact ⟨_, rfl, rfl, by rw [if_pos (.inl z)]⟩
      clean_wf
      refine way2 (fun z2 => ?_) (fun z2 => ?_)
      · skip
        clean_wf
        refine way2 (fun z3 => ?_) (fun z3 => ?_)
        · skip
          clean_wf
          exact ⟨_, rfl, rfl, by rw [if_pos (.inr ⟨z2, z3⟩)]⟩
        · skip
          clean_wf
          exact ⟨_, rfl, rfl, by rw [if_neg (fun k => k.elim z (fun k => z3 k.2))]⟩
      · skip
        clean_wf
        exact ⟨_, rfl, rfl, by rw [if_neg (fun k => k.elim z (fun k => z2 k.1))]⟩
    · obtain ⟨g, rfl, rfl, hg⟩ := hM
      obtain ⟨g0, hd, l1, l2⟩ := dir_of h hG hg
      have bg : Bd 61 g := by
        rw [hg]
        split
        · exact bG.neg.mono (by decide)
        · exact bG.mono (by decide)
      have k2 := kk _ _ hd l1 l2
      clean_wf
      refine k2 _ _ ?_ ht
      array_mem_dec
def spZeroLines (K : PySem.W.Frag) : Sp := fun vs H Q _ => ∃ (af : Addr) (a b c k : Int), vs = [.ref af] ∧ SqT K H af [.int a, .int b, .int c] ∧ SF k a b c ∧ a.natAbs ≤ 1099511627776 ∧ b.natAbs ≤ 1099511627776 ∧ c.natAbs ≤ 1099511627776 ∧ k ≤ 4398046511104 ∧
  ∀ H' L t1 t2 x1 y1 x2 y2 z, Same H H' → H L = none → H' L = some (.lst [.ref t1, .ref t2]) → SqT K H' t1 [.int x1, .int y1] → SqT K H' t2 [.int x2, .int y2] → (z = k ∨ z = -k) → Pt2 a b c z x1 y1 → Pt2 a b c (-z) x2 y2 → Q (.ref L) H'
theorem uZeroLines {K : PySem.W.Frag} {H : Hp} {Q : VK} {E : XK} {vs : List V} {af : Addr} {a b c k : Int} (e : vs = [.ref af]) (hs : SqT K H af [.int a, .int b, .int c]) (F : SF k a b c) (b1 : a.natAbs ≤ 1099511627776) (b2 : b.natAbs ≤ 1099511627776) (b3 : c.natAbs ≤ 1099511627776) (b4 : k ≤ 4398046511104)
    (kk : ∀ H' L t1 t2 x1 y1 x2 y2 z, Same H H' → H L = none → H' L = some (.lst [.ref t1, .ref t2]) → SqT K H' t1 [.int x1, .int y1] → SqT K H' t2 [.int x2, .int y2] → (z = k ∨ z = -k) → Pt2 a b c z x1 y1 → Pt2 a b c (-z) x2 y2 → Q (.ref L) H') : spZeroLines K vs H Q E := ⟨af, a, b, c, k, e, hs, F, b1, b2, b3, b4, kk⟩
theorem okZeroLines (T : Txt K mg fa fd) : FnOk P w K mg base CX0 3 (fa 19) (fd 19) ["form"] (spZeroLines K) := by
  refine T.F_zero_lines.ok scZeroLines (fun vs H Q E h => ?_) (fun cdv A outer s H vs Q E hr h => ?_)
  · obtain ⟨af, a, b, c, k, rfl, hs, F, b1, b2, b3, b4, kk⟩ := h
    rfl
  · obtain ⟨af, a, b, c, k, rfl, hs, F, b1, b2, b3, b4, kk⟩ := h
    refine ⟨_, (pss_cons (ps_asg (pv 0) (pgT K 3 (by rfl) (pgs_cons (pg_name (i := 1) scZeroLines.nd rfl (Or.inl rfl)) (pgs_cons (pg_name (i := 2) scZeroLines.nd rfl (Or.inl rfl)) (pgs_cons (pg_name (i := 3) scZeroLines.nd rfl (Or.inl rfl)) pgs_nil)))))
      (pss_cons (ps_if (pt_cmp (pc_eqI (pv 1) pe_int))
      (pss_one (ps_ret (pe_lst (pa_cons (pe_tup (pa_cons pe_int (pa_cons pe_int pa_nil))) (pa_cons (pe_call (sp := spDirected K) (okDirected T) hr (by rfl) T.G_directed T.F_directed.kp T.B_directed .nil pass0 (pa_cons (pv 3) (pa_cons (pe_un un_neg (pv 2)) pa_nil))) pa_nil)))))
      pss_nil)
      (pss_cons (ps_set (i := 4) scZeroLines.nd rfl (Or.inl rfl) (pe_call (sp := spFloorRoot K) (okFloorRoot T) (hr.mono (by decide)) (by rfl) T.G_floor_root T.F_floor_root.kp T.B_floor_root .nil pass0 (pa_cons (pe_call (sp := spDiscriminant K) (okDiscriminant T) (hr.mono (by decide)) (by rfl) T.G_discriminant T.F_discriminant.kp T.B_discriminant .nil pass0 (pa_cons (pv 0) pa_nil)) pa_nil)))
      (pss_one (ps_ret (pe_lst (pa_cons (pe_call (sp := spDirected K) (okDirected T) hr (by rfl) T.G_directed T.F_directed.kp T.B_directed .nil pass0 (pa_cons (pe_op op_sub (pv 4) (pv 2)) (pa_cons (pe_op op_mulW pe_int (pv 1)) pa_nil))) (pa_cons (pe_call (sp := spDirected K) (okDirected T) hr (by rfl) T.G_directed T.F_directed.kp T.B_directed .nil pass0 (pa_cons (pe_op op_sub (pe_un un_neg (pv 4)) (pv 2)) (pa_cons (pe_op op_mulW pe_int (pv 1)) pa_nil))) pa_nil)))))))), ?_⟩
    have k0 := F.k0
    have hd : b * b - 4 * a * c = k * k := F.d
    have ga : Bd 41 a := Bd.of b1 (by decide)
    have gb : Bd 41 b := Bd.of b2 (by decide)
    have gc : Bd 41 c := Bd.of b3 (by decide)
    clean_wf
    refine way2 (fun z => ?_) (fun z => ?_)
    · subst z
      have kb : b * b = k * k := by omega
      have hb : b = k ∨ b = -k := by
        have e : (b - k) * (b + k) = 0 := by
          have : (b - k) * (b + k) = b * b - k * k := by grind
          omega
        rcases Int.mul_eq_zero.mp e with h | h
        · exact .inl (by omega)
        · exact .inr (by omega)
      have b0 : b ≠ 0 := by omega
      have gc6 : Bd 60 c := gc.mono (by decide)
      have gb6 : Bd 60 (-b) := gb.neg.mono (by decide)
      have hor : c ≠ 0 ∨ -b ≠ 0 := .inr (by omega)
      clean_wf
      intro x2 y2 hdr l1 l2
      clean_wf
      obtain ⟨⟨g, g0, e1, e2⟩, hg, hsg⟩ := hdr
      refine kk _ _ _ _ 1 0 x2 y2 b ?_ ?_ ht ?_ ?_ hb ⟨rfl, .inl (by decide), ⟨by omega, by omega⟩, by decide, by decide⟩ ⟨hg, hsg, Ln.of g0 ?_, Nat.le_trans l1 (by omega), Nat.le_trans l2 (by omega)⟩
      · array_mem_dec
      · refine Same.free ?_ nn
        array_mem_dec
      · simp_wf
      · simp_wf
      · rw [← e1, ← e2]
        exact ln0 b c
    · have hroot := F.root
      have gk : Bd 43 k := Bd.of (m := 4398046511104) (by omega) (by decide)
      have sq1 : 0 ≤ b * b - 4 * a * c := by
        rw [hd]
        exact Int.mul_nonneg (by omega) (by omega)
      have sq2 : b * b - 4 * a * c < 1000000000000000000000000000 := by
        rw [hd]
        exact Int.lt_of_le_of_lt (Int.mul_le_mul b4 b4 (by omega) (by decide)) (by decide)
      repeat' (first
        | with_reducible apply R.var
        | with_reducible apply R.gsE
        | ((with_reducible apply R.gsN); (focus exact rfl))
        | with_reducible apply R.lenS
        | ((with_reducible apply R.lenB); exact rfl)
        | ((with_reducible apply R.isEq); exact rfl)
        | with_reducible apply R.op
        | with_reducible apply R.i2
        | with_reducible apply R.i0
        | with_reducible apply R.con
        | with_reducible apply R.cons
        | with_reducible apply R.nil
        | with_reducible apply R.gcons
        | with_reducible apply R.gname
        | ((with_reducible apply R.ixT); (focus ((repeat' (first | with_reducible assumption | with_reducible apply hU | ((with_reducible apply SqT.of); with_reducible assumption) | ((with_reducible apply same_seqT); with_reducible assumption) | ((with_reducible apply kp_seqT); with_reducible assumption) | ((with_reducible apply Dw.same); with_reducible assumption))); done)); exact rfl)
        | ((with_reducible apply R.ixL); (focus ((repeat' (first | with_reducible assumption | ((with_reducible apply SqL.of); with_reducible assumption) | ((with_reducible apply Same.seq); with_reducible assumption) | ((with_reducible apply Kp.seqL); with_reducible assumption) | ((with_reducible apply fresh_ne); with_reducible assumption) | ((with_reducible apply Dw.same); with_reducible assumption))); done)); exact rfl)
        | with_reducible assumption
        | with_reducible apply Bd.mulW
        | with_reducible apply Bd.mul
        | with_reducible apply Bd.add
        | with_reducible apply Bd.sub
        | ((with_reducible apply Bd.l8); exact eq_true (by decide))
        | ((with_reducible apply Bd.lit); exact eq_true (by decide))
        | with_reducible apply Bd.neg
        | with_reducible apply Bd.div
        | with_reducible apply Bd.abs
        | with_reducible apply Bd.mod
        | with_reducible apply Bd.fdiv
        | ((with_reducible apply Bd.om); omega)
        | ((with_reducible apply R.isLe); first | decide | omega)
        | with_reducible apply R.un
        | with_reducible apply R.u1
        | with_reducible apply R.tup
        | with_reducible apply R.lst
        | with_reducible apply R.call
        | with_reducible apply R.callB
        | with_reducible apply R.gtup
        | with_reducible apply R.gnil
        | with_reducible apply R.seq
        | with_reducible apply R.asg
        | with_reducible apply R.ret
        | with_reducible apply R.brk
        | with_reducible apply R.cont
        | with_reducible apply R.next
        | with_reducible apply R.drop
        | with_reducible apply R.par
        | with_reducible apply R.par2
        | with_reducible apply R.ifs
        | with_reducible apply R.tif
        | with_reducible apply R.test
        | with_reducible apply R.tb'
        | with_reducible apply R.isbl
        | with_reducible apply R.cmp
        | with_reducible apply R.t2i
        | with_reducible apply R.intp
        | with_reducible apply R.and
        | with_reducible apply R.or
        | with_reducible apply R.not
        | with_reducible apply R.andV
        | with_reducible apply R.orV
        | with_reducible apply R.notV
        | with_reducible apply R.chain
        | with_reducible apply R.tupL
        | with_reducible apply R.lstL
        | with_reducible apply R.cat
        | with_reducible apply R.absI
        | with_reducible apply R.intI
        | with_reducible apply R.intB
        | with_reducible apply R.eqS
        | with_reducible apply R.eqBl
        | with_reducible apply R.neBl
        | with_reducible apply R.sl
        | with_reducible apply R.noPart
        | with_reducible apply R.part
        | with_reducible apply R.isInt
        | with_reducible apply R.slL
        | with_reducible apply R.isiT
        | with_reducible apply R.isiLst
        | with_reducible apply R.nwT
        | with_reducible apply R.nwL
        | ((with_reducible apply R.mt); intro HN tn sn nn ht)
        | ((with_reducible apply R.ml); intro HN tn sn nn ht)
        | ((with_reducible apply R.isiTupS); focus ((repeat' (first | with_reducible assumption | with_reducible apply hU | ((with_reducible apply SqT.of); with_reducible assumption) | ((with_reducible apply same_seqT); with_reducible assumption) | ((with_reducible apply kp_seqT); with_reducible assumption) | ((with_reducible apply Dw.same); with_reducible assumption))); done))
        | ((with_reducible apply R.ne4); focus ((repeat' (first | with_reducible assumption | with_reducible apply hU | ((with_reducible apply SqT.of); with_reducible assumption) | ((with_reducible apply same_seqT); with_reducible assumption) | ((with_reducible apply kp_seqT); with_reducible assumption) | ((with_reducible apply Dw.same); with_reducible assumption))); done))
        | ((with_reducible apply R.ne3); focus ((repeat' (first | with_reducible assumption | with_reducible apply hU | ((with_reducible apply SqT.of); with_reducible assumption) | ((with_reducible apply same_seqT); with_reducible assumption) | ((with_reducible apply kp_seqT); with_reducible assumption) | ((with_reducible apply Dw.same); with_reducible assumption))); done))
        | ((with_reducible apply R.ne2); focus ((repeat' (first | with_reducible assumption | with_reducible apply hU | ((with_reducible apply SqT.of); with_reducible assumption) | ((with_reducible apply same_seqT); with_reducible assumption) | ((with_reducible apply kp_seqT); with_reducible assumption) | ((with_reducible apply Dw.same); with_reducible assumption))); done))
        | ((with_reducible apply R.eq4); focus ((repeat' (first | with_reducible assumption | with_reducible apply hU | ((with_reducible apply SqT.of); with_reducible assumption) | ((with_reducible apply same_seqT); with_reducible assumption) | ((with_reducible apply kp_seqT); with_reducible assumption) | ((with_reducible apply Dw.same); with_reducible assumption))); done))
        | ((with_reducible apply R.eq3); focus ((repeat' (first | with_reducible assumption | with_reducible apply hU | ((with_reducible apply SqT.of); with_reducible assumption) | ((with_reducible apply same_seqT); with_reducible assumption) | ((with_reducible apply kp_seqT); with_reducible assumption) | ((with_reducible apply Dw.same); with_reducible assumption))); done))
        | ((with_reducible apply R.eq2); focus ((repeat' (first | with_reducible assumption | with_reducible apply hU | ((with_reducible apply SqT.of); with_reducible assumption) | ((with_reducible apply same_seqT); with_reducible assumption) | ((with_reducible apply kp_seqT); with_reducible assumption) | ((with_reducible apply Dw.same); with_reducible assumption))); done))
        | with_reducible apply uLawNext
        | with_reducible apply uLawChange
        | with_reducible apply uMultiply
        | with_reducible apply uApply
        | with_reducible apply uLawMul
        | with_reducible apply uLawWorth
        | with_reducible apply uWorth
        | with_reducible apply uDiscriminant
        | with_reducible apply uAct
        | with_reducible apply uLawAct
        | with_reducible apply uLawRoot
        | with_reducible apply uDirected
        | with_reducible apply uCompleted
        | with_reducible apply uBezout
        | with_reducible apply uDiscriminant
        | with_reducible apply uLawSplit
        | with_reducible apply uKind
        | with_reducible apply uIsSquare
        | ((with_reducible apply R.nw); intro HN tn sn ht)
        | with_reducible apply iteT
        | with_reducible apply iteF
        | with_reducible apply R.notT
        | with_reducible apply R.notF
        | ((with_reducible apply SqT.of); with_reducible assumption)
        | ((with_reducible apply SqL.of); with_reducible assumption)
        | ((with_reducible apply same_seqT); with_reducible assumption)
        | ((with_reducible apply sameB); with_reducible assumption)
        | ((with_reducible apply same_at); with_reducible assumption)
        | ((with_reducible apply kp_seqT); with_reducible assumption)
        | ((with_reducible apply Same.seq); with_reducible assumption)
        | ((with_reducible apply Kp.seqL); with_reducible assumption)
        | ((with_reducible apply fresh_ne); with_reducible assumption)
        | ((with_reducible apply Dw.same); with_reducible assumption)
        | ((with_reducible apply R.isEq); exact eq_true (by first | decide | omega))
        | ((with_reducible apply R.isLt); first | decide | omega)
        | ((with_reducible apply R.isLtI); first | decide | omega)
        | ((with_reducible apply R.isLeI); first | decide | omega)
        | ((with_reducible apply R.cdiv); exact rfl)
        | ((with_reducible apply R.cpow); exact rfl)
        | with_reducible apply R.cdivX
        | ((with_reducible apply R.isNe); omega)
        | with_reducible apply hU
        | ((with_reducible apply wayNF); first | exact rfl | exact ⟨rfl, rfl⟩ | exact ⟨rfl, rfl, rfl⟩ | exact ⟨rfl, rfl, rfl, rfl⟩)
        | with_reducible apply R.bm
        | ((with_reducible apply R.bmT); (focus ((first | with_reducible assumption | ((with_reducible apply same_at); with_reducible assumption) | ((with_reducible apply kp_at); with_reducible assumption)); done)))
        | with_reducible apply R.dput
        | with_reducible apply R.dget
        | with_reducible apply R.din
        | with_reducible apply R.dget2
        | with_reducible apply R.forE
        | with_reducible apply R.rng1
        | with_reducible apply R.rng2
        | with_reducible apply R.rg1
        | with_reducible apply R.rg2
        | with_reducible apply R.lcE
        | with_reducible apply R.itup
        | with_reducible apply R.ilst
        )
      refine ⟨b * b - 4 * a * c, rfl, sq1, ?_, ?_⟩
      · exact pow_up (a := 100) (by show (b * b - 4 * a * c).natAbs < 1267650600228229401496703205376; omega) (by decide)
      rw [hroot]
      have c1 : (k - b).natAbs ≤ 35184372088832 := by omega
      have c2 : (2 * a).natAbs ≤ 35184372088832 := by omega
      have c3 : (-k - b).natAbs ≤ 35184372088832 := by omega
      have o1 : k - b ≠ 0 ∨ 2 * a ≠ 0 := .inr (by omega)
      have o2 : -k - b ≠ 0 ∨ 2 * a ≠ 0 := .inr (by omega)
      have g1 : Bd 60 (k - b) := (gk.sub gb).mono (by decide)
      have g2 : Bd 60 (-k - b) := (gk.neg.sub gb).mono (by decide)
      have g3 : Bd 60 (2 * a) := Bd.om (by omega)
      clean_wf
      intro x1 y1 hd1 l1 l2
      clean_wf
      intro x2 y2 hd2 l3 l4
      clean_wf
      obtain ⟨⟨g, g0, e1, e2⟩, hg, hsg⟩ := hd1
      obtain ⟨⟨g', g0', e1', e2'⟩, hg', hsg'⟩ := hd2
      refine kk _ _ _ _ x1 y1 x2 y2 (-k) ?_ ?_ ht ?_ ?_ (.inr rfl) ⟨hg, hsg, Ln.of g0 ?_, Nat.le_trans l1 c1, Nat.le_trans l2 c2⟩ ⟨hg', hsg', Ln.of g0' ?_, Nat.le_trans l3 c3, Nat.le_trans l4 c2⟩
      · array_mem_dec
      · refine Same.free ?_ nn
        array_mem_dec
      · simp_wf
      · simp_wf
      · rw [← e1, ← e2]
        exact (ln1 hd).1
      · rw [← e1', ← e2']
        exact (ln1 hd).2
def spCanonicalSplit (K : PySem.W.Frag) : Sp := fun vs H Q _ => ∃ (af : Addr) (a b c k : Int), vs = [.ref af] ∧ SqT K H af [.int a, .int b, .int c] ∧ SF k a b c ∧ a.natAbs ≤ 1099511627776 ∧ b.natAbs ≤ 1099511627776 ∧ c.natAbs ≤ 1099511627776 ∧ k ≤ 4398046511104 ∧
  ∀ H' t tf tm c' p q r s, Same H H' → H' t = some (.tup [.ref tf, .ref tm]) → SqT K H' tf [.int 0, .int k, .int c'] → SqT K H' tm [.int p, .int q, .int r, .int s] → CS k a b c c' p q r s → Bd 9500 p → Bd 19100 q → Bd 9500 r → Bd 19100 s → Q (.ref t) H'
theorem okCanonicalSplit (T : Txt K mg fa fd) : FnOk P w K mg base CX0 4 (fa 21) (fd 21) ["form"] (spCanonicalSplit K) := by
  refine T.F_canonical_split.ok scCanonicalSplit (fun vs H Q E h => ?_) (fun cdv A outer s H vs Q E hr h => ?_)
  · obtain ⟨af, a, b, c, k, rfl, hs, F, b1, b2, b3, b4, kk⟩ := h
    rfl
  · obtain ⟨af, a, b, c, k, rfl, hs, F, b1, b2, b3, b4, kk⟩ := h
    refine ⟨_, (pss_cons (ps_asg (pe_lc (own := [("point", 8)]) (g := gName 8) (tt := tYes) rfl scCanonicalSplit.nd (piL K (pe_call (sp := spZeroLines K) (okZeroLines T) hr (by rfl) T.G_zero_lines T.F_zero_lines.kp T.B_zero_lines .nil pass0 (pa_cons (pv 0) pa_nil))) (blkOk_by (own := [("point", 8)]) (N := ["form", "first", "second", "m", "_", "k", "c", "step", "point"]) (sc := defScope sCanonicalSplit) (by decide +kernel)) (fun _ _ _ _ _ => (pg_name (i := 8) scCanonicalSplit.nd rfl (Or.inl rfl))) (fun _ _ _ _ _ => pts_nil) (fun _ _ _ _ _ => (pe_call (sp := spCompleted K) (okCompleted T) (hr.mono (by decide)) (by rfl) T.G_completed T.F_completed.kp T.B_completed .nil pass0 (pa_cons (pv 8) pa_nil)))) (pgU K 2 (by rfl) (pgs_cons (pg_name (i := 1) scCanonicalSplit.nd rfl (Or.inl rfl)) (pgs_cons (pg_name (i := 2) scCanonicalSplit.nd rfl (Or.inl rfl)) pgs_nil))))
      (pss_cons (ps_set (i := 3) scCanonicalSplit.nd rfl (Or.inl rfl) (pe_ifExp (pt_cmp (pc_gt (pe_ix (ixT K) (pe_call (sp := spAct K) (okAct T) (hr.mono (by decide)) (by rfl) T.G_act T.F_act.kp T.B_act .nil pass0 (pa_cons (pv 0) (pa_cons (pv 1) pa_nil))) pe_int (fun _ _ => rfl)) pe_int)) (pv 1) (pv 2)))
      (pss_cons (ps_asg (pe_call (sp := spAct K) (okAct T) (hr.mono (by decide)) (by rfl) T.G_act T.F_act.kp T.B_act .nil pass0 (pa_cons (pv 0) (pa_cons (pv 3) pa_nil))) (pgT K 3 (by rfl) (pgs_cons (pg_name (i := 4) scCanonicalSplit.nd rfl (Or.inl rfl)) (pgs_cons (pg_name (i := 5) scCanonicalSplit.nd rfl (Or.inl rfl)) (pgs_cons (pg_name (i := 6) scCanonicalSplit.nd rfl (Or.inl rfl)) pgs_nil)))))
      (pss_cons (ps_set (i := 7) scCanonicalSplit.nd rfl (Or.inl rfl) (pe_tup (pa_cons pe_int (pa_cons (pe_un un_neg (pe_op op_fdivX (pv 6) (pv 5))) (pa_cons pe_int (pa_cons pe_int pa_nil))))))
      (pss_one (ps_ret (pe_tup (pa_cons (pe_tup (pa_cons pe_int (pa_cons (pv 5) (pa_cons (pe_op op_mod (pv 6) (pv 5)) pa_nil)))) (pa_cons (pe_call (sp := spMultiply K) (okMultiply T) (hr.mono (by decide)) (by rfl) T.G_multiply T.F_multiply.kp T.B_multiply .nil pass0 (pa_cons (pv 3) (pa_cons (pv 7) pa_nil))) pa_nil))))))))), ?_⟩
    have k0 := F.k0
    have ga : Bd 41 a := Bd.of b1 (by decide)
    have gb : Bd 41 b := Bd.of b2 (by decide)
    have gc : Bd 41 c := Bd.of b3 (by decide)
    clean_wf
    refine uZeroLines rfl hs F b1 b2 b3 b4 ?_
    intro H1 L t1 t2 x1 y1 x2 y2 z sm1 nL hL st1 st2 hz P1 P2
    have gx1 : Bd 60 x1 := Bd.of P1.b1 (by decide)
    have gy1 : Bd 60 y1 := Bd.of P1.b2 (by decide)
    have gx2 : Bd 60 x2 := Bd.of P2.b1 (by decide)
    have gy2 : Bd 60 y2 := Bd.of P2.b2 (by decide)
    have pg1 := P1.g
    have pg2 := P2.g
    clean_wf
    refine R.refs (S := SqL K _) (xs := [.ref t1, .ref t2]) (SqL.of hL) ?_
    intro D nD
    refine lc_list (K := K) (a := L) (xs := [.ref t1, .ref t2]) (fun i H' => Same H1 H' ∧ ((i = 0 ∧ H' D = some (.lst [])) ∨ (∃ m1 u1 v1, u1 * x1 + v1 * y1 = 1 ∧ Bd 9404 u1 ∧ Bd 9404 v1 ∧ SqT K H' m1 [.int x1, .int (-v1), .int y1, .int u1] ∧ ((i = 1 ∧ H' D = some (.lst [.ref m1])) ∨ (i = 2 ∧ ∃ m2 u2 v2, u2 * x2 + v2 * y2 = 1 ∧ Bd 9404 u2 ∧ Bd 9404 v2 ∧ SqT K H' m2 [.int x2, .int (-v2), .int y2, .int u2] ∧ H' D = some (.lst [.ref m1, .ref m2]))))))
      ⟨same_upd nD, .inl ⟨rfl, upd_same⟩⟩ (fun i H' _ h => h.1.seq (SqL.of hL)) (fun i x H2 hx h => ?_) (fun H2 h => ?_)
    · obtain ⟨sm2, h⟩ := h
      have st1' := same_seqT sm2 st1
      have st2' := same_seqT sm2 st2
      rcases h with ⟨rfl, hD⟩ | ⟨m1, u1, v1, d1, e1, e2, sT1, ⟨rfl, hD⟩ | ⟨rfl, _⟩⟩
      · cases hx
        clean_wf
        refine ⟨rfl, ?_⟩
        dsimp only [tYes]
        rw [if_pos rfl]
        clean_wf
        intro u v d e1 e2
        clean_wf
        refine ⟨_, sn _ _ hD, (by show _ < sizeLine; exact Nat.lt_of_lt_of_le (show _ < 5 by simp) (by decide)), same_mut (sm2.trans sn) nD, .inr ⟨tn, u, v, d, e1, e2, ?_, .inl ⟨rfl, upd_same⟩⟩⟩
        exact SqT.of ((upd_ne (fun k => by rw [k, sn _ _ hD] at ht; cases ht)).trans ht)
      · cases hx
        clean_wf
        refine ⟨rfl, ?_⟩
        dsimp only [tYes]
        rw [if_pos rfl]
        clean_wf
        intro u v d e3 e4
        clean_wf
        refine ⟨_, sn _ _ hD, (by show _ < sizeLine; exact Nat.lt_of_lt_of_le (show _ < 5 by simp) (by decide)), same_mut (sm2.trans sn) nD, .inr ⟨m1, u1, v1, d1, e1, e2, ?_, .inr ⟨rfl, tn, u, v, d, e3, e4, ?_, upd_same⟩⟩⟩
        · exact upd_seqT (sn _ _ hD) (same_seqT sn sT1)
        · exact SqT.of ((upd_ne (fun k => by rw [k, sn _ _ hD] at ht; cases ht)).trans ht)
      · cases hx
    · obtain ⟨sm2, h⟩ := h
      obtain ⟨m1, u1, v1, d1, e1, e2, sT1, m2, u2, v2, d2, e3, e4, sT2, hD⟩ : ∃ m1 u1 v1, u1 * x1 + v1 * y1 = 1 ∧ Bd 9404 u1 ∧ Bd 9404 v1 ∧ SqT K H2 m1 [.int x1, .int (-v1), .int y1, .int u1] ∧ ∃ m2 u2 v2, u2 * x2 + v2 * y2 = 1 ∧ Bd 9404 u2 ∧ Bd 9404 v2 ∧ SqT K H2 m2 [.int x2, .int (-v2), .int y2, .int u2] ∧ H2 D = some (.lst [.ref m1, .ref m2]) := by
        rcases h with ⟨h, _⟩ | ⟨m1, u1, v1, d1, e1, e2, sT1, ⟨h, _⟩ | ⟨_, m2, u2, v2, d2, e3, e4, sT2, hD⟩⟩
        · cases h
        · cases h
        · exact ⟨m1, u1, v1, d1, e1, e2, sT1, m2, u2, v2, d2, e3, e4, sT2, hD⟩
      refine r_gunl (SqL.of hD) rfl ?_
      have hs2 := same_seqT (sm1.trans sm2) hs
      clean_wf
      have q1 : 2 * a * x1 * -v1 + b * (x1 * u1 + -v1 * y1) + 2 * c * y1 * u1 = z := P1.l.mid d1
      have q2 : fB a b c x2 (-v2) y2 u2 = -z := P2.l.mid d2
      have sM1 : SqT K HN m1 [.int x1, .int (-v1), .int y1, .int u1] := by simp_wf
      have sM2 : SqT K HN m2 [.int x2, .int (-v2), .int y2, .int u2] := by simp_wf
      rw [q1]
      obtain ⟨tM, x, y, u, v, hM1, hM2, sM, dM, lM, bx, by', bu, bv⟩ : ∃ tM x y u v, (0 < z → tM = m1) ∧ (¬ 0 < z → tM = m2) ∧ SqT K HN tM [.int x, .int (-v), .int y, .int u] ∧ u * x + v * y = 1 ∧ Ln a b c k x y ∧ Bd 60 x ∧ Bd 60 y ∧ Bd 9404 u ∧ Bd 9404 v := by
        rcases hz with rfl | rfl
        · exact ⟨m1, x1, y1, u1, v1, fun _ => rfl, fun w => absurd k0 w, sM1, d1, P1.l, gx1, gy1, e1, e2⟩
        · have l2 := P2.l
          rw [Int.neg_neg] at l2
          exact ⟨m2, x2, y2, u2, v2, fun w => by omega, fun _ => rfl, sM2, d2, l2, gx2, gy2, e3, e4⟩
      refine iteVV (v := .ref tM) (fun w => by rw [hM1 w]; rfl) (fun w => by rw [hM2 w]; rfl) ?_
      have qM : 2 * a * x * -v + b * (x * u + -v * y) + 2 * c * y * u = k := lM.mid dM
      have hsN : SqT K HN af [.int a, .int b, .int c] := by simp_wf
      have gk : Bd 43 k := Bd.of (m := 4398046511104) (by omega) (by decide)
      have braw : Bd 43 (2 * a * x * -v + b * (x * u + -v * y) + 2 * c * y * u) := by
        rw [qM]
        exact gk
      clear sT1 sT2 sM1 sM2 q1 q2 hs2 hD hM1 hM2 d1 d2 e1 e2 e3 e4 P1 P2 gx1 gy1 gx2 gy2 pg1 pg2
      clean_wf
      have hcs := cs_of k0 dM lM
      rw [← qM] at hcs kk
      refine kk _ tn _ _ (fA a b c (-v) u % (2 * a * x * -v + b * (x * u + -v * y) + 2 * c * y * u)) _ _ _ _ ?_ ht ?_ ?_ hcs ?_ ?_ ?_ ?_
      · array_mem_dec
      · unfold fA
        simp_wf
      · unfold fA
        simp_wf
      all_goals (try unfold fA); (apply bdm; clean_wf)
def spCanonicalForm (K : PySem.W.Frag) : Sp := fun vs H Q _ => ∃ (af : Addr) (a b c k : Int), vs = [.ref af] ∧ SqT K H af [.int a, .int b, .int c] ∧ SF k a b c ∧ a.natAbs ≤ 1099511627776 ∧ b.natAbs ≤ 1099511627776 ∧ c.natAbs ≤ 1099511627776 ∧ k ≤ 4398046511104 ∧
  ∀ H' t tf tm c' p q r s, Same H H' → H' t = some (.tup [.ref tf, .ref tm]) → SqT K H' tf [.int 0, .int k, .int c'] → SqT K H' tm [.int p, .int q, .int r, .int s] → CS k a b c c' p q r s → Bd 9500 p → Bd 19100 q → Bd 9500 r → Bd 19100 s → Q (.ref t) H'
theorem okCanonicalForm (T : Txt K mg fa fd) : FnOk P w K mg base CX0 5 (fa 22) (fd 22) ["form"] (spCanonicalForm K) := by
  refine T.F_canonical_form.ok scCanonicalForm (fun vs H Q E h => ?_) (fun cdv A outer s H vs Q E hr h => ?_)
  · obtain ⟨af, a, b, c, k, rfl, hs, F, b1, b2, b3, b4, kk⟩ := h
    rfl
  · obtain ⟨af, a, b, c, k, rfl, hs, F, b1, b2, b3, b4, kk⟩ := h
    refine ⟨_, (pss_cons (ps_set (i := 1) scCanonicalForm.nd rfl (Or.inl rfl) (pe_call (sp := spKind K) (okKind T) (hr.mono (by decide)) (by rfl) T.G_kind T.F_kind.kp T.B_kind .nil pass0 (pa_cons (pv 0) pa_nil)))
      (pss_cons (ps_if (pt_cmpR op_eq (pv 1) pe_str (nomark _))
      (pss_one ps_never)
      pss_nil)
      (pss_cons (ps_if (pt_cmpR op_eq (pv 1) pe_str (nomark _))
      (pss_one (ps_ret (pe_call (sp := spCanonicalSplit K) (okCanonicalSplit T) hr (by rfl) T.G_canonical_split T.F_canonical_split.kp T.B_canonical_split .nil pass0 (pa_cons (pv 0) pa_nil))))
      pss_nil)
      (pss_cons (ps_if (pt_cmpR op_eq (pv 1) pe_str (nomark _))
      (pss_one ps_never)
      pss_nil)
      (pss_one ps_never))))), ?_⟩
    have g1 : Bd 3000 a := (Bd.of b1 (show 1099511627776 < 2 ^ 60 by decide)).mono (by decide)
    have g2 : Bd 3000 b := (Bd.of b2 (show 1099511627776 < 2 ^ 60 by decide)).mono (by decide)
    have g3 : Bd 3000 c := (Bd.of b3 (show 1099511627776 < 2 ^ 60 by decide)).mono (by decide)
    have hk : kindS (dsc a b c) = "split" := by
      have k0 := F.k0
      have p : 0 < k * k := Int.mul_pos k0 k0
      have r : rootI (dsc a b c) = k := F.root
      have d := F.d
      unfold kindS
      rw [if_neg (by omega), if_neg (by omega), r, if_pos d.symm]
    clean_wf
    rw [hk]
    clean_wf
    refine wayF (fun h => by injection h with h; exact absurd h (by decide)) ?_
    clean_wf
    refine wayT rfl ?_
    clean_wf
    exact ⟨af, a, b, c, k, rfl, hs, F, b1, b2, b3, b4, kk⟩
def spMeasures (_ : PySem.W.Frag) : Sp := fun vs H Q _ => ∃ (n : Int) (l : List (Nat × Nat)), vs = [.int n] ∧ n ≠ 0 ∧ n.natAbs < 2 ^ 59 ∧ MsOk n.natAbs l ∧ ∀ H' r, Same H H' → H r = none → H' r = some (.lst ((msL l).map V.int)) → Q (.ref r) H'
theorem okMeasures (T : Txt K mg fa fd) : FnOk P w K mg base CX0 5 (fa 24) (fd 24) ["n"] (spMeasures K) := by
  refine T.F_measures.ok scMeasures (fun vs H Q E h => ?_) (fun cdv A outer s H vs Q E hr h => ?_)
  · obtain ⟨n, l, rfl, n0, n1, ok, kk⟩ := h
    rfl
  · obtain ⟨n, l, rfl, n0, n1, ok, kk⟩ := h
    refine ⟨_, (pss_cons (ps_set (i := 1) scMeasures.nd rfl (Or.inl rfl) (pe_call (sp := spProducts K) (okProducts T) (hr.mono (by decide)) (by rfl) T.G_products T.F_products.kp T.B_products .nil pass0 (pa_cons (pe_call (sp := spPrimeParts K) (okPrimeParts T) hr (by rfl) T.G_prime_parts T.F_prime_parts.kp T.B_prime_parts .nil pass0 (pa_cons (pe_callB (absQ K) (by rfl) T.m_abs (by decide +kernel) (pa_cons (pv 0) pa_nil)) pa_nil)) pa_nil)))
      (pss_one (ps_ret (pe_op op_cat (pv 1) (pe_lc (own := [("g", 2)]) (g := gName 2) (tt := tYes) rfl scMeasures.nd (piL K (pv 1)) (blkOk_by (own := [("g", 2)]) (N := ["n", "found", "g"]) (sc := defScope sMeasures) (by decide +kernel)) (fun _ _ _ _ _ => (pg_name (i := 2) scMeasures.nd rfl (Or.inl rfl))) (fun _ _ _ _ _ => pts_nil) (fun _ _ _ _ _ => (pe_un un_neg (pv 2)))))))), ?_⟩
    clean_wf
    refine ⟨n.natAbs, l, rfl, by omega, n1, ok.pp, fun H1 A as s1 nA hA hP hl => ?_⟩
    clean_wf
    refine ⟨A, as, l, rfl, hA, hP, ok.ok, fun H2 r s2 nr hr => ?_⟩
    have s12 := s1.trans s2
    clean_wf
    refine R.refs (S := SqL K _) (xs := (prdL l).map V.int) (SqL.of hr) ?_
    have hlen := ok.len
    refine R.lcFL (ns := prdL l) (fun _ => true) (fun g => -g) (by omega) (SqL.of hr) (fun g H3 C' E' hg s3 c1 c2 => ?_) (fun H3 D hD s3 nD => ?_)
    · have z := c1 rfl
      clean_wf
      refine ⟨rfl, R.yes ?_⟩
      clean_wf
    · rw [List.filter_eq_self.mpr (fun _ _ => rfl)] at hD
      refine ⟨r, D, _, _, rfl, rfl, s3 _ _ hr, hD, ?_, fun p np => ?_⟩
      · rw [List.length_map, List.length_map, List.length_map]
        exact Nat.le_of_lt (Nat.lt_of_lt_of_le (show _ < 100000 by omega) (by decide))
      · refine kk _ p ((s12.trans s3).trans (same_upd np)) (Same.free (s12.trans s3) np) ?_
        unfold msL
        rw [upd_same, List.map_append]
def spSplitPoints (K : PySem.W.Frag) : Sp := fun vs H Q _ => ∃ (af : Addr) (a b c k n : Int) (l : List (Nat × Nat)), vs = [.ref af, .int n] ∧ SqT K H af [.int a, .int b, .int c] ∧ SF k a b c ∧ a.natAbs ≤ 1099511627776 ∧ b.natAbs ≤ 1099511627776 ∧ c.natAbs ≤ 1099511627776 ∧ k ≤ 4398046511104 ∧ n ≠ 0 ∧ n.natAbs < 2 ^ 59 ∧ MsOk n.natAbs l ∧
  ∀ H' L ws qs, Same H H' → H L = none → H' L = some (.lst ws) → Pd H' ws qs → qs.Pairwise ltp → (∀ v, v ∈ qs ↔ fA a b c v.1 v.2 = n) → qs.length ≤ 80000 → Q (.ref L) H'
theorem okSplitPoints (T : Txt K mg fa fd) : FnOk P w K mg base CX0 6 (fa 23) (fd 23) ["form", "n"] (spSplitPoints K) := by
  refine T.F_split_points.ok scSplitPoints (fun vs H Q E h => ?_) (fun cdv A outer s H vs Q E hr h => ?_)
  · obtain ⟨af, a, b, c, k, n, l, rfl, hs, F, b1, b2, b3, b4, n0, n1, ok, kk⟩ := h
    rfl
  · obtain ⟨af, a, b, c, k, n, l, rfl, hs, F, b1, b2, b3, b4, n0, n1, ok, kk⟩ := h
    refine ⟨_, (pss_cons (ps_asg (pe_call (sp := spCanonicalForm K) (okCanonicalForm T) hr (by rfl) T.G_canonical_form T.F_canonical_form.kp T.B_canonical_form .nil pass0 (pa_cons (pv 0) pa_nil)) (pgT K 2 (by rfl) (pgs_cons (pgT K 3 (by rfl) (pgs_cons (pg_name (i := 2) scSplitPoints.nd rfl (Or.inl rfl)) (pgs_cons (pg_name (i := 3) scSplitPoints.nd rfl (Or.inl rfl)) (pgs_cons (pg_name (i := 4) scSplitPoints.nd rfl (Or.inl rfl)) pgs_nil)))) (pgs_cons (pg_name (i := 5) scSplitPoints.nd rfl (Or.inl rfl)) pgs_nil))))
      (pss_cons (ps_set (i := 6) scSplitPoints.nd rfl (Or.inl rfl) (pe_lst pa_nil))
      (pss_cons (ps_for PassesOwn.never rfl (piL K (pe_call (sp := spMeasures K) (okMeasures T) hr (by rfl) T.G_measures T.F_measures.kp T.B_measures .nil pass0 (pa_cons (pv 1) pa_nil))) (pg_name (i := 7) scSplitPoints.nd rfl (Or.inl rfl))
      (pss_cons (ps_set (i := 8) scSplitPoints.nd rfl (Or.inl rfl) (pe_op op_sub (pe_op op_fdivX (pv 1) (pv 7)) (pe_op op_mulW (pv 4) (pv 7))))
        (pss_one (ps_if (pt_cmp (pc_eqI (pe_op op_mod (pv 8) (pv 3)) pe_int))
        (pss_one (ps_expr (pe_bm PySem.F.plainAttrs_list PySem.F.slot_list_append PySem.F.type_list_append mt_append (pv 6) (pa_cons (pe_call (sp := spApply K) (okApply T) (hr.mono (by decide)) (by rfl) T.G_apply T.F_apply.kp T.B_apply .nil pass0 (pa_cons (pv 5) (pa_cons (pe_tup (pa_cons (pe_op op_fdivX (pv 8) (pv 3)) (pa_cons (pv 7) pa_nil))) pa_nil))) pa_nil))))
        pss_nil))))
      (pss_one (ps_ret (pe_callB (srtPQ K) (by rfl) T.m_sorted (by decide +kernel) (pa_cons (pv 6) pa_nil))))))), ?_⟩
    clean_wf
    refine ⟨af, a, b, c, k, rfl, hs, F, b1, b2, b3, b4, ?_⟩
    intro H1 t tf tm c' p q r s s1 ht1 sf1 sm1 C g1 g2 g3 g4
    have k0 := F.k0
    have c0 := C.c0
    have c1 := C.c1
    have bn : Bd 59 n := n1
    have bk : Bd 60 k := Bd.om (by omega)
    have bc : Bd 60 c' := Bd.om (by omega)
    clean_wf
    refine ⟨n, l, rfl, n0, n1, ok, fun H2 M s2 nM hM => ?_⟩
    obtain ⟨mnd, mm⟩ := ok.ms n0
    have hlen := ok.len
    have mlen : (msL l).length ≤ 80000 := by
      unfold msL
      rw [List.length_append, List.length_map]
      omega
    have mb : ∀ y ∈ msL l, y ≠ 0 ∧ Bd 59 y := by
      intro y hy
      have hd := (mm y).mp hy
      refine ⟨?_, ?_⟩
      · rintro rfl
        exact n0 (Int.zero_dvd.mp hd)
      · exact Nat.lt_of_le_of_lt (Nat.le_of_dvd (by omega) (Int.natAbs_dvd_natAbs.mpr hd)) n1
    have smem := sp_mem k0 n0 C mm
    have snd := sp_nodup (n := n) C mnd
    generalize msL l = ms at *
    clean_wf
    have smD : Same H H2 := by array_mem_dec
    have nD : H tn = none := Same.free s1 nn
    have hD0 := s2 _ _ ht
    have dM : M ≠ tn := (ne_of_none ht nM).symm
    have stm := same_seqT (sn.trans s2) sm1
    generalize tn = D at *
    refine R.refs (S := SqL K _) (xs := ms.map V.int) (SqL.of hM) ?_
    refine for_list (K := K) (a := M) (xs := ms.map V.int) (fun i σ H' => ∃ (x2 x7 x8 : Option V) (vs : List V), σ = [some (.ref af), some (.int n), x2, some (.int k), some (.int c'), some (.ref tm), some (.ref D), x7, x8] ∧ Kp D H2 H' ∧ Same H H' ∧ H' D = some (.lst vs) ∧ Pd H' vs (spL n k c' p q r s (ms.take i)))
      ⟨_, _, _, [], rfl, Kp.refl, smD, hD0, .nil⟩ (fun i σ H' hi hPv => ?_) (fun i x σ H' hx hPv => ?_) (fun σ H' hPv => ?_)
    · obtain ⟨x2, x7, x8, vs, rfl, kp, sm, hD, pd⟩ := hPv
      exact SqL.of (kp _ _ dM hM)
    · obtain ⟨x2, x7, x8, vs, rfl, kp, sm, hD, pd⟩ := hPv
      rw [List.getElem?_map] at hx
      cases hn : ms[i]? with
      | none =>
        rw [hn] at hx
        cases hx
      | some y =>
        rw [hn] at hx
        cases hx
        obtain ⟨y0, by'⟩ := mb y (List.mem_of_getElem? hn)
        have stm2 : SqT K H' tm [.int p, .int q, .int r, .int s] := kp_seqTL kp hD0 stm
        have tk : ms.take (i + 1) = ms.take i ++ [y] := by
          rw [List.take_add_one, hn]
          rfl
        have vl : vs.length ≤ 100000 := by
          rw [pd.len]
          unfold spL
          rw [List.length_map]
          have := List.length_filter_le (spT n k c') (ms.take i)
          rw [List.length_take] at this
          omega
        clean_wf
        refine way2 (fun z => ?_) (fun z => ?_)
        · have brest : Bd 121 (n.fdiv y - c' * y) := by apply bdm; clean_wf
          clean_wf
          rename_i Ha ta sa hta
          have sall := sa.trans sn
          have hDN := sall _ _ hD
          refine R.app hDN (Nat.le_trans vl (by decide)) (fun H5 e5 h5 => ?_)
          have e : spL n k c' p q r s (ms.take (i + 1)) = spL n k c' p q r s (ms.take i) ++ [spP n k c' p q r s y] := by
            unfold spL
            rw [tk, List.filter_append, List.filter_cons_of_pos (by unfold spT; exact decide_eq_true z), List.filter_nil, List.map_append]
            rfl
          rw [e]
          refine ⟨_, _, _, vs ++ [.ref tn], rfl, ?_, ?_, h5, ?_⟩
          · rw [e5]
            exact (kp.trans (same_kp sall)).trans (frm_kp fun b hb => upd_ne hb)
          · rw [e5]
            exact same_mut (sm.trans sall) nD
          · rw [e5]
            refine ((pd.same sall).off hDN).snoc ?_
            rw [upd_ne (ne_of ht hDN (by intro z; cases z))]
            exact ht
        · have e : spL n k c' p q r s (ms.take (i + 1)) = spL n k c' p q r s (ms.take i) := by
            unfold spL
            rw [tk, List.filter_append, List.filter_cons_of_neg (by unfold spT; rw [decide_eq_false z]; decide), List.filter_nil, List.append_nil]
          rw [e]
          clean_wf
          exact ⟨_, _, _, vs, rfl, kp, sm, hD, pd⟩
    · obtain ⟨x2, x7, x8, vs, rfl, kp, sm, hD, pd⟩ := hPv
      rw [List.length_map, List.take_length] at pd
      clean_wf
      refine R.srtP (SqL.of hD) pd snd (fun ws qs H6 L pw pm pl s6 nL hL => ?_)
      refine kk H6 L ws qs (sm.trans s6) (Same.free sm nL) hL pw pl (fun v => (pm.mem_iff).trans (smem v)) ?_
      rw [pm.length_eq]
      unfold spL
      rw [List.length_map]
      exact Nat.le_trans (List.length_filter_le _ _) mlen
def spIsRepresented (K : PySem.W.Frag) : Sp := fun vs H Q _ => ∃ (af : Addr) (a b c k n : Int) (l : List (Nat × Nat)), vs = [.ref af, .int n] ∧ SqT K H af [.int a, .int b, .int c] ∧ SF k a b c ∧ a.natAbs ≤ 1099511627776 ∧ b.natAbs ≤ 1099511627776 ∧ c.natAbs ≤ 1099511627776 ∧ k ≤ 4398046511104 ∧ n ≠ 0 ∧ n.natAbs < 2 ^ 59 ∧ MsOk n.natAbs l ∧
  ∀ (H' : Hp) (qs : List (Int × Int)), Same H H' → qs.Pairwise ltp → (∀ v, v ∈ qs ↔ fA a b c v.1 v.2 = n) → Q (.bl (!decide (qs.map pL = []))) H'
theorem okIsRepresented (T : Txt K mg fa fd) : FnOk P w K mg base CX0 7 (fa 25) (fd 25) ["form", "n"] (spIsRepresented K) := by
  refine T.F_is_represented.ok scIsRepresented (fun vs H Q E h => ?_) (fun cdv A outer s H vs Q E hr h => ?_)
  · obtain ⟨af, a, b, c, k, n, l, rfl, hs, F, b1, b2, b3, b4, n0, n1, ok, kk⟩ := h
    rfl
  · obtain ⟨af, a, b, c, k, n, l, rfl, hs, F, b1, b2, b3, b4, n0, n1, ok, kk⟩ := h
    refine ⟨_, (pss_cons (ps_if (pt_cmpR op_eq (pe_call (sp := spKind K) (okKind T) (hr.mono (by decide)) (by rfl) T.G_kind T.F_kind.kp T.B_kind .nil pass0 (pa_cons (pv 0) pa_nil)) pe_str (nomark _))
      (pss_one (ps_ret (pe_cmpR (neDQ K hr.units) (pe_call (sp := spSplitPoints K) (okSplitPoints T) hr (by rfl) T.G_split_points T.F_split_points.kp T.B_split_points .nil pass0 (pa_cons (pv 0) (pa_cons (pv 1) pa_nil))) (pe_lst pa_nil) (nomark _))))
      pss_nil)
      (pss_one ps_never)), ?_⟩
    have g1 : Bd 3000 a := (Bd.of b1 (show 1099511627776 < 2 ^ 60 by decide)).mono (by decide)
    have g2 : Bd 3000 b := (Bd.of b2 (show 1099511627776 < 2 ^ 60 by decide)).mono (by decide)
    have g3 : Bd 3000 c := (Bd.of b3 (show 1099511627776 < 2 ^ 60 by decide)).mono (by decide)
    have hk : kindS (dsc a b c) = "split" := by
      have k0 := F.k0
      have p : 0 < k * k := Int.mul_pos k0 k0
      have r : rootI (dsc a b c) = k := F.root
      have d := F.d
      unfold kindS
      rw [if_neg (by omega), if_neg (by omega), r, if_pos d.symm]
    clean_wf
    rw [hk]
    refine wayT rfl ?_
    clean_wf
    refine ⟨af, a, b, c, k, n, l, rfl, hs, F, b1, b2, b3, b4, n0, n1, ok, ?_⟩
    intro H1 L ws qs s1 nL hL pd pw mem ql
    clean_wf
    refine R.neTps (ts := qs.map pL) (us := []) (SqL.of (sn _ _ hL)) (pd.same sn).tps (SqL.of ht) .nil ?_
    exact kk _ qs (s1.trans sn) pw mem
def spLawCell (K : PySem.W.Frag) : Sp := fun vs H Q _ => ∃ (l : Addr) (ns : List Int) (j : Nat), vs = [.ref l, .int (j : Int)] ∧ SqL K H l (ns.map V.int) ∧ ∀ v : Int, Q (.int v) H
theorem okLawCell (T : Txt K mg fa fd) : FnOk P w K mg base CX0 1 (fa 26) (fd 26) ["script", "k"] (spLawCell K) := by
  refine T.F__law_cell.ok scLawCell (fun vs H Q E h => ?_) (fun cdv A outer s H vs Q E hr h => ?_)
  · obtain ⟨l, ns, j, rfl, hS, q⟩ := h
    rfl
  · obtain ⟨l, ns, j, rfl, hS, q⟩ := h
    refine ⟨_, (pss_cons (ps_if (pt_cmp (pc_lt (pv 1) (pe_callB (lenQ K) (by rfl) T.m_len (by decide +kernel) (pa_cons (pv 0) pa_nil))))
      (pss_one (ps_ret (pe_ix (ixL K) (pv 0) (pv 1) (fun _ _ => rfl))))
      pss_nil)
      (pss_one (ps_ret pe_int))), ?_⟩
    refine ⟨_, rfl, _, rfl, _, _, rfl, .inl hS, _, _, rfl, rfl, _, rfl, ite2 (fun e => ?_) (fun e => ?_)⟩
    · have e1 : (j : Int) < ((ns.map V.int).length : Int) := of_decide_eq_true e
      have hj : j < ns.length := by
        rw [List.length_map] at e1
        omega
      exact ⟨_, rfl, _, rfl, _, _, _, _, rfl, rfl, hS, atI_nat (by rw [List.getElem?_map, List.getElem?_eq_getElem hj]; rfl), q _⟩
    · exact q 0
def spLawNumbers (K : PySem.W.Frag) : Sp := fun vs H Q _ => ∃ (c : Int) (m : Nat), vs = [.int c, .int (m : Int)] ∧ m ≤ 100 ∧
  ∀ H' p (ns : List Int), Same H H' → H p = none → H' p = some (.lst (ns.map V.int)) → ns.length = m → (∀ n ∈ ns, 0 ≤ n ∧ n < 1000) → Q (.ref p) H'
theorem okLawNumbers (T : Txt K mg fa fd) : FnOk P w K mg base CX0 1 (fa 27) (fd 27) ["cell", "many"] (spLawNumbers K) := by
  refine T.F__law_numbers.ok scLawNumbers (fun vs H Q E h => ?_) (fun cdv A outer s H vs Q E hr h => ?_)
  · obtain ⟨c, m, rfl, hm, q⟩ := h
    rfl
  · obtain ⟨c, m, rfl, hm, q⟩ := h
    refine ⟨_, (pss_cons (ps_set (i := 2) scLawNumbers.nd rfl (Or.inl rfl) (pe_callB (absQ K) (by rfl) T.m_abs (by decide +kernel) (pa_cons (pv 0) pa_nil)))
      (pss_cons (ps_set (i := 3) scLawNumbers.nd rfl (Or.inl rfl) (pv 2))
      (pss_cons (ps_set (i := 4) scLawNumbers.nd rfl (Or.inl rfl) (pe_lst pa_nil))
      (pss_cons (ps_for PassesOwn.never rfl (pi_range1 (by rfl) T.m_range (pa_cons (pv 1) pa_nil)) (pg_name (i := 5) scLawNumbers.nd rfl (Or.inl rfl))
      (pss_one (ps_if (PW.pt (pw_and (pt_cmp (pc_ge (pv 3) (pe_op op_pow pe_int pe_int))) (pw_and1 (pt_cmp (pc_gt (pv 2) pe_int)))))
        (pss_cons (ps_expr (pe_bm PySem.F.plainAttrs_list PySem.F.slot_list_append PySem.F.type_list_append mt_append (pv 4) (pa_cons (pe_op op_mod (pe_callTy (intQ K) (by rfl) T.m_int (by decide +kernel) (pa_cons (pv 2) pa_nil)) pe_int) pa_nil)))
          (pss_one (ps_set (i := 2) scLawNumbers.nd rfl (Or.inl rfl) (pe_op op_fdiv (pv 2) pe_int))))
        (pss_cons (ps_set (i := 6) scLawNumbers.nd rfl (Or.inl rfl) (pe_op op_mod (pe_callTy (intQ K) (by rfl) T.m_int (by decide +kernel) (pa_cons (pe_op op_add (pe_op op_add (pe_op op_mul (pv 3) pe_int) (pe_op op_mul (pv 5) pe_int)) pe_int) pa_nil)) pe_int))
          (pss_cons (ps_set (i := 6) scLawNumbers.nd rfl (Or.inl rfl) (pe_op op_mod (pe_callTy (intQ K) (by rfl) T.m_int (by decide +kernel) (pa_cons (pe_op op_add (pe_op op_add (pe_op op_mul (pv 6) (pv 6)) (pe_op op_mul pe_int (pv 5))) pe_int) pa_nil)) pe_int))
          (pss_one (ps_expr (pe_bm PySem.F.plainAttrs_list PySem.F.slot_list_append PySem.F.type_list_append mt_append (pv 4) (pa_cons (pe_op op_mod (pe_callTy (intQ K) (by rfl) T.m_int (by decide +kernel) (pa_cons (pe_op op_fdiv (pv 6) pe_int) pa_nil)) pe_int) pa_nil)))))))))
      (pss_one (ps_ret (pv 4))))))), ?_⟩
    refine ⟨_, rfl, _, rfl, _, rfl, Nat.zero_le _, fun o no => ?_⟩
    refine ⟨_, rfl, _, rfl, by omega, by omega, for_range (lo := 0) (n := m) (fun i σ H' => ∃ (rest span : Int) (x5 x6 : Option V) (ns : List Int), σ = [some (.int c), some (.int (m : Int)), some (.int rest), some (.int span), some (.ref o), x5, x6] ∧ Same H H' ∧ H' o = some (.lst (ns.map V.int)) ∧ ns.length = i ∧ ∀ n ∈ ns, 0 ≤ n ∧ n < 1000)
      ⟨_, _, _, _, [], rfl, same_upd no, upd_same, rfl, fun n h => nomatch h⟩ (fun i σ H' hi ⟨rest, span, x5, x6, ns, hσ, hs, ho, hl, hb⟩ => ?_) (fun σ H' ⟨rest, span, x5, x6, ns, hσ, hs, ho, hl, hb⟩ => ?_)⟩
    · subst hσ
      have sz : (ns.map V.int).length < sizeLine := by
        rw [List.length_map]
        exact small1000 (by omega)
      have app : ∀ r : Int, 0 ≤ r → r < 1000 → (upd H' o (.lst (ns.map V.int ++ [V.int r]))) o = some (.lst ((ns ++ [r]).map V.int)) ∧ (ns ++ [r]).length = i + 1 ∧ ∀ n ∈ ns ++ [r], 0 ≤ n ∧ n < 1000 := fun r h0 h1 => by
        refine ⟨by rw [upd_same, List.map_append]; rfl, by rw [List.length_append, hl]; rfl, fun n hn => ?_⟩
        rcases List.mem_append.mp hn with hn | hn
        · exact hb n hn
        · rw [List.mem_singleton.mp hn]
          exact ⟨h0, h1⟩
      refine ⟨_, rfl, _, _, rfl, rfl, ⟨by decide, by decide, by decide⟩, _, _, rfl, rfl, _, rfl, ?_⟩
      have tl : ∀ (D : Ends) (rest' : Int) (x5' x6' : Option V) (r : Int), 0 ≤ r → r < 1000 → (∀ σ' H2, (∃ (rest span : Int) (x5 x6 : Option V) (ns : List Int), σ' = [some (.int c), some (.int (m : Int)), some (.int rest), some (.int span), some (.ref o), x5, x6] ∧ Same H H2 ∧ H2 o = some (.lst (ns.map V.int)) ∧ ns.length = i + 1 ∧ ∀ n ∈ ns, 0 ≤ n ∧ n < 1000) → D.nx σ' H2) → D.nx [some (.int c), some (.int (m : Int)), some (.int rest'), some (.int span), some (.ref o), x5', x6'] (upd H' o (.lst (ns.map V.int ++ [V.int r]))) := fun D rest' x5' x6' r h0 h1 k => by
        obtain ⟨a1, a2, a3⟩ := app r h0 h1
        exact k _ _ ⟨rest', span, x5', x6', _, rfl, same_mut hs no, a1, a2, a3⟩
      have m1 : ∀ z : Int, 0 ≤ z % 1000 ∧ z % 1000 < 1000 := fun z => by omega
      have m2 : ∀ z : Int, 0 ≤ z % 2147483647 ∧ z % 2147483647 < 2147483647 := fun z => by omega
      refine ite2 (fun e => ?_) (fun e => ?_)
      · refine ⟨_, rfl, _, _, rfl, rfl, _, rfl, ite2 (fun e => ?_) (fun e => ?_)⟩
        · refine ⟨_, rfl, .inl ⟨rfl, _, SqL.of ho⟩, _, rfl, .inl ⟨_, rfl, _, _, rfl, rfl, by show (0 : Int) < 1000; decide, _, _, _, rfl, rfl, ho, sz, ?_⟩⟩
          refine ⟨_, rfl, _, _, rfl, rfl, ⟨by decide, by decide⟩, ?_⟩
          obtain ⟨a1, a2, a3⟩ := app (rest % 1000) (m1 _).1 (m1 _).2
          exact ⟨_, _, _, _, _, rfl, same_mut hs no, a1, a2, a3⟩
        · refine ⟨_, rfl, _, _, rfl, rfl, .inr ⟨by decide, by decide⟩, _, rfl, _, _, rfl, rfl, .inr ⟨by decide, by decide⟩, _, _, rfl, rfl, _, _, rfl, rfl, .inl ⟨_, rfl, _, _, rfl, rfl, by show (0 : Int) < 2147483647; decide, ?_⟩⟩
          refine ⟨_, rfl, _, rfl, _, _, rfl, rfl, .inl ?_, _, rfl, _, _, rfl, rfl, .inl ⟨by decide, by decide⟩, _, _, rfl, rfl, _, _, rfl, rfl, .inl ⟨_, rfl, _, _, rfl, rfl, by show (0 : Int) < 2147483629; decide, ?_⟩⟩
          · have h := m2 (span * 48271 + (0 + (i : Int)) * 69621 + 11)
            omega
          refine ⟨_, rfl, .inl ⟨rfl, _, SqL.of ho⟩, _, rfl, _, _, rfl, rfl, ⟨by decide, by decide⟩, .inl ⟨_, rfl, _, _, rfl, rfl, by show (0 : Int) < 1000; decide, _, _, _, rfl, rfl, ho, sz, ?_⟩⟩
          obtain ⟨a1, a2, a3⟩ := app _ (m1 _).1 (m1 _).2
          exact ⟨_, _, _, _, _, rfl, same_mut hs no, a1, a2, a3⟩
      · refine iteF ?_
        refine ⟨_, rfl, _, _, rfl, rfl, .inr ⟨by decide, by decide⟩, _, rfl, _, _, rfl, rfl, .inr ⟨by decide, by decide⟩, _, _, rfl, rfl, _, _, rfl, rfl, .inl ⟨_, rfl, _, _, rfl, rfl, by show (0 : Int) < 2147483647; decide, ?_⟩⟩
        refine ⟨_, rfl, _, rfl, _, _, rfl, rfl, .inl ?_, _, rfl, _, _, rfl, rfl, .inl ⟨by decide, by decide⟩, _, _, rfl, rfl, _, _, rfl, rfl, .inl ⟨_, rfl, _, _, rfl, rfl, by show (0 : Int) < 2147483629; decide, ?_⟩⟩
        · have h := m2 (span * 48271 + (0 + (i : Int)) * 69621 + 11)
          omega
        refine ⟨_, rfl, .inl ⟨rfl, _, SqL.of ho⟩, _, rfl, _, _, rfl, rfl, ⟨by decide, by decide⟩, .inl ⟨_, rfl, _, _, rfl, rfl, by show (0 : Int) < 1000; decide, _, _, _, rfl, rfl, ho, sz, ?_⟩⟩
        obtain ⟨a1, a2, a3⟩ := app _ (m1 _).1 (m1 _).2
        exact ⟨_, _, _, _, _, rfl, same_mut hs no, a1, a2, a3⟩
    · subst hσ
      exact ⟨_, rfl, q _ _ ns hs no ho hl hb⟩
def spLawState (K : PySem.W.Frag) : Sp := fun vs H Q _ => ∃ (l : Addr) (ns : List Int), vs = [.ref l] ∧ SqL K H l (ns.map V.int) ∧ ∀ H' p a, Same H H' → Dw H' p a 0 → Q (.ref p) H'
theorem okLawState (T : Txt K mg fa fd) : FnOk P w K mg base CX0 2 (fa 28) (fd 28) ["script"] (spLawState K) := by
  refine T.F__law_state.ok scLawState (fun vs H Q E h => ?_) (fun cdv A outer s H vs Q E hr h => ?_)
  · obtain ⟨l, ns, rfl, hS, q⟩ := h
    rfl
  · obtain ⟨l, ns, rfl, hS, q⟩ := h
    refine ⟨_, (pss_cons (ps_set (i := 1) scLawState.nd rfl (Or.inl rfl) (pe_lst pa_nil))
      (pss_cons (ps_for PassesOwn.never rfl (pi_range1 (by rfl) T.m_range (pa_cons pe_int pa_nil)) (pg_name (i := 2) scLawState.nd rfl (Or.inl rfl))
      (pss_one (ps_set (i := 1) scLawState.nd rfl (Or.inl rfl) (pe_op op_cat (pv 1) (pe_call (sp := spLawNumbers K) (okLawNumbers T) hr (by rfl) T.G__law_numbers T.F__law_numbers.kp T.B__law_numbers .nil pass0 (pa_cons (pe_op op_add (pe_callB (absQ K) (by rfl) T.m_abs (by decide +kernel) (pa_cons (pe_call (sp := spLawCell K) (okLawCell T) hr (by rfl) T.G__law_cell T.F__law_cell.kp T.B__law_cell .nil pass0 (pa_cons (pv 0) (pa_cons (pv 2) pa_nil))) pa_nil)) (pe_op op_mul pe_int (pv 2))) (pa_cons pe_int pa_nil)))))))
      (pss_one (ps_ret (pe_lst (pa_cons (pv 1) (pa_cons pe_int pa_nil))))))), ?_⟩
    refine ⟨Nat.zero_le _, fun o no => ?_⟩
    refine ⟨3, rfl, by decide, by decide, for_range (lo := 0) (n := 3) (fun i σ H' => ∃ (o : Addr) (x2 : Option V) (ms : List Int), σ = [some (.ref l), some (.ref o), x2] ∧ Same H H' ∧ H' o = some (.lst (ms.map V.int)) ∧ ms.length = 40 * i ∧ ∀ n ∈ ms, 0 ≤ n ∧ n < 1000)
      ⟨o, none, [], rfl, same_upd no, upd_same, rfl, fun n h => nomatch h⟩ (fun i σ H' hi ⟨o, x2, ms, hσ, hs, ho, hl, hb⟩ => ?_) (fun σ H' ⟨o, x2, ms, hσ, hs, ho, hl, hb⟩ => ?_)⟩
    · subst hσ
      refine ⟨_, rfl, _, rfl, _, rfl, l, ns, i, ?_, hs.seq hS, fun v => ⟨_, rfl, _, rfl, _, _, rfl, rfl, .inl ⟨by decide, by decide⟩, _, _, rfl, rfl, _, 40, rfl, by decide, fun H2 u ks s2 nu hu kl kb => ?_⟩⟩
      · exact congrArg (fun t : Int => [V.ref l, V.int t]) (Int.zero_add _)
      refine ⟨_, _, _, _, rfl, rfl, s2 _ _ ho, hu, ?_, fun w nw => ?_⟩
      · rw [List.length_map, List.length_map]
        exact small200 (by omega)
      refine ⟨w, _, ms ++ ks, rfl, (hs.trans s2).trans (same_upd nw), ?_, ?_, fun n hn => ?_⟩
      · rw [upd_same, List.map_append]
      · rw [List.length_append]
        omega
      · rcases List.mem_append.mp hn with hn | hn
        · exact hb n hn
        · exact kb n hn
    · subst hσ
      refine ⟨_, rfl, by show 2 ≤ sizeLine; decide, fun p np => ?_⟩
      refine q _ p o (hs.trans (same_upd np)) ⟨0, ms, Nat.le_refl 0, ne_of_none ho np, upd_same, ?_, hl, hb⟩
      rw [upd_ne (ne_of_none ho np)]
      exact ho
def spLawNext (_ : PySem.W.Frag) : Sp := fun vs H Q _ => ∃ (p a : Addr) (many : Int) (N : Nat), vs = [.ref p, .int many] ∧ Dw H p a N ∧ N < 1000000000 ∧ 0 < many ∧
  ∀ r H', 0 ≤ r → r < many → Dw H' p a (N + 1) → (∀ b, b ≠ p → H' b = H b) → Q (.int r) H'
theorem uLawNext {K : PySem.W.Frag} {H : Hp} {Q : VK} {E : XK} {vs : List V} {p a : Addr} {N : Nat} {many : Int} (e : vs = [.ref p, .int many]) (d : Dw H p a N) (hN : N < 1000000000) (hm : 0 < many) (q : ∀ r H', 0 ≤ r → r < many → Dw H' p a (N + 1) → Kp p H H' → Q (.int r) H') : spLawNext K vs H Q E :=
  ⟨p, a, many, N, e, d, hN, hm, fun r H' h0 h1 d' f => q r H' h0 h1 d' (frm_kp f)⟩
theorem okLawNext (T : Txt K mg fa fd) : FnOk P w K mg base CX0 1 (fa 29) (fd 29) ["state", "many"] (spLawNext K) := by
  refine T.F__law_next.ok scLawNext (fun vs H Q E h => ?_) (fun cdv A outer s H vs Q E hr h => ?_)
  · obtain ⟨p, a, many, N, rfl, ⟨m, ns, hm, hap, hp, ha, hl, hb⟩, hN, hmany, q⟩ := h
    rfl
  · obtain ⟨p, a, many, N, rfl, ⟨m, ns, hm, hap, hp, ha, hl, hb⟩, hN, hmany, q⟩ := h
    refine ⟨_, (pss_cons (ps_asg (pe_op op_add (pe_ix (ixL K) (pv 0) pe_int (fun _ _ => rfl)) pe_int) (pg_sub (pv 0) pe_int set_list))
      (pss_cons (ps_set (i := 2) scLawNext.nd rfl (Or.inl rfl) (pe_op op_add (pe_ix (ixL K) (pe_ix (ixL K) (pv 0) pe_int (fun _ _ => rfl)) (pe_op op_mod (pe_callTy (intQ K) (by rfl) T.m_int (by decide +kernel) (pa_cons (pe_op op_mul (pe_ix (ixL K) (pv 0) pe_int (fun _ _ => rfl)) pe_int) pa_nil)) (pe_callB (lenQ K) (by rfl) T.m_len (by decide +kernel) (pa_cons (pe_ix (ixL K) (pv 0) pe_int (fun _ _ => rfl)) pa_nil))) (fun _ _ => rfl)) (pe_op op_mul (pe_op op_mul pe_int (pe_ix (ixL K) (pv 0) pe_int (fun _ _ => rfl))) (pe_op op_add pe_int (pe_op op_fdiv (pe_ix (ixL K) (pv 0) pe_int (fun _ _ => rfl)) (pe_callB (lenQ K) (by rfl) T.m_len (by decide +kernel) (pa_cons (pe_ix (ixL K) (pv 0) pe_int (fun _ _ => rfl)) pa_nil)))))))
      (pss_one (ps_ret (pe_op op_mod (pe_callTy (intQ K) (by rfl) T.m_int (by decide +kernel) (pa_cons (pv 2) pa_nil)) (pv 1)))))), ?_⟩
    have eS : SqL K H p [.ref a, .int (m : Int)] := SqL.of hp
    refine ⟨_, rfl, _, _, _, _, rfl, rfl, eS, atI_nat (j := 1) rfl, _, _, rfl, rfl, _, rfl, _, _, _, 1, rfl, rfl, hp, rfl, ?_⟩
    have h1p : (upd H p (.lst [.ref a, .int ((m : Int) + 1)])) p = some (.lst [.ref a, .int ((m : Int) + 1)]) := upd_same
    have h1a : (upd H p (.lst [.ref a, .int ((m : Int) + 1)])) a = some (.lst (ns.map V.int)) := by
      rw [upd_ne hap]
      exact ha
    have fr : ∀ b, b ≠ p → (upd H p (.lst [.ref a, .int ((m : Int) + 1)])) b = H b := fun b hb => upd_ne hb
    show tSeq _ _ _ _ (upd H p (.lst [.ref a, .int ((m : Int) + 1)]))
    generalize upd H p (.lst [.ref a, .int ((m : Int) + 1)]) = H1 at h1p h1a fr
    have S1 : SqL K H1 p [.ref a, .int ((m : Int) + 1)] := SqL.of h1p
    have A1 : SqL K H1 a (ns.map V.int) := SqL.of h1a
    have hl2 : ((ns.map V.int).length : Int) = 120 := by
      rw [List.length_map, hl]
      rfl
    obtain ⟨x, hx, ex⟩ := at_int (ns := ns) (r := ((m : Int) + 1) * 7 % 120) (by omega) (by omega)
    refine ⟨_, rfl, _, _, _, _, rfl, rfl, S1, atI_nat (j := 0) rfl, _, rfl, _, _, _, _, rfl, rfl, S1, atI_nat (j := 1) rfl, _, _, rfl, rfl, .inr ⟨by decide, by decide⟩, .inl ⟨_, rfl, _, rfl, _, _, _, _, rfl, rfl, S1, atI_nat (j := 0) rfl, _, _, rfl, .inl A1, ?_⟩⟩
    rw [hl2]
    refine ⟨_, _, rfl, rfl, by show (0 : Int) < 120; decide, _, _, _, _, rfl, rfl, A1, ex, ?_⟩
    refine ⟨_, rfl, _, _, _, _, rfl, rfl, S1, atI_nat (j := 1) rfl, _, _, rfl, rfl, .inl ⟨by decide, by decide⟩, _, rfl, _, _, _, _, rfl, rfl, S1, atI_nat (j := 1) rfl, _, rfl, _, _, _, _, rfl, rfl, S1, atI_nat (j := 0) rfl, _, _, rfl, .inl A1, ?_⟩
    rw [hl2]
    refine ⟨_, _, rfl, rfl, ⟨by decide, by decide⟩, _, _, rfl, rfl, _, _, rfl, rfl, .inl ⟨by omega, by omega⟩, _, _, rfl, rfl, ?_⟩
    refine ⟨_, rfl, .inl ⟨_, rfl, _, rfl, _, _, rfl, rfl, hmany, ?_⟩⟩
    exact q _ _ (Int.emod_nonneg _ (by omega)) (Int.emod_lt_of_pos _ hmany) ⟨m + 1, ns, by omega, hap, h1p, h1a, hl, hb⟩ fr
def spLawRoot (_ : PySem.W.Frag) : Sp := fun vs H Q _ => ∃ n : Int, vs = [.int n] ∧ 0 ≤ n ∧ n < 2 ^ 60 ∧ Q (.int (rootI n)) H
theorem okLawRoot (T : Txt K mg fa fd) : FnOk P w K mg base CX0 1 (fa 30) (fd 30) ["n"] (spLawRoot K) := by
  refine T.F__law_root.ok scLawRoot (fun vs H Q E h => ?_) (fun cdv A outer s H vs Q E hr h => ?_)
  · obtain ⟨n, rfl, h0, h1, q⟩ := h
    rfl
  · obtain ⟨n, rfl, h0, h1, q⟩ := h
    refine ⟨_, (pss_cons (ps_set (i := 1) scLawRoot.nd rfl (Or.inl rfl) pe_int)
      (pss_cons (ps_set (i := 2) scLawRoot.nd rfl (Or.inl rfl) (pe_op op_add (pv 0) pe_int))
      (pss_cons (ps_for PassesOwn.never rfl (pi_range1 (by rfl) T.m_range (pa_cons pe_int pa_nil)) (pg_name (i := 3) scLawRoot.nd rfl (Or.inl rfl))
      (pss_cons (ps_if (pt_cmp (pc_le (pe_op op_sub (pv 2) (pv 1)) pe_int))
        (pss_one (ps_ret (pv 1)))
        pss_nil)
        (pss_cons (ps_set (i := 4) scLawRoot.nd rfl (Or.inl rfl) (pe_op op_fdiv (pe_op op_add (pv 1) (pv 2)) pe_int))
        (pss_one (ps_if (pt_cmp (pc_le (pe_op op_mul (pv 4) (pv 4)) (pv 0)))
        (pss_one (ps_set (i := 1) scLawRoot.nd rfl (Or.inl rfl) (pv 4)))
        (pss_one (ps_set (i := 2) scLawRoot.nd rfl (Or.inl rfl) (pv 4))))))))
      (pss_one (ps_ret (pv 1)))))), ?_⟩
    have h1' : n < 1152921504606846976 := h1
    refine ⟨_, rfl, _, _, rfl, rfl, 2000, rfl, by decide, by decide, ?_⟩
    refine for_range (lo := 0) (n := 2000) (fun i σ H' => ∃ (low high : Int) (x3 x4 : Option V), σ = [some (.int n), some (.int low), some (.int high), x3, x4] ∧ H' = H ∧ 0 ≤ low ∧ low < high ∧ high ≤ n + 1 ∧ low * low ≤ n ∧ n < high * high ∧ (high - low - 1) * 2 ^ i ≤ n)
      ⟨0, n + 1, none, none, rfl, rfl, by omega, by omega, by omega, by omega, ?_, by simp⟩ (fun i σ H' hi ⟨low, high, x3, x4, hσ, e, z0, z1, z2, z3, z4, z5⟩ => ?_) (fun σ H' ⟨low, high, x3, x4, hσ, e, z0, z1, z2, z3, z4, z5⟩ => ?_)
    · have a : (n + 1) * 1 ≤ (n + 1) * (n + 1) := Int.mul_le_mul_of_nonneg_left (by omega) (by omega)
      omega
    · subst hσ e
      refine ⟨_, rfl, _, rfl, _, _, rfl, rfl, _, _, rfl, rfl, _, rfl, way2 (fun h => ?_) (fun h => ?_)⟩
      · have eh : high = low + 1 := by omega
        subst eh
        refine ⟨_, rfl, ?_⟩
        rw [← rootI_uniq h0 z0 z3 z4] at q
        exact q
      · obtain ⟨k1, k2, k3, k4⟩ := half_step (by omega) z5
        refine ⟨_, rfl, _, rfl, _, _, rfl, rfl, _, _, rfl, rfl, ⟨by decide, by decide⟩, ?_⟩
        refine ⟨_, rfl, _, rfl, _, _, rfl, rfl, .inl ⟨by omega, by omega⟩, _, rfl, _, _, rfl, rfl, _, rfl, way2 (fun h => ?_) (fun h => ?_)⟩
        · exact ⟨_, rfl, (low + high) / 2, high, _, _, rfl, rfl, by omega, k4, z2, h, z4, k2⟩
        · exact ⟨_, rfl, low, (low + high) / 2, _, _, rfl, rfl, z0, k3, by omega, z3, by omega, k1⟩
    · subst hσ e
      have eh : high = low + 1 := by
        by_cases z : high - low - 1 ≤ 0
        · omega
        · have p0 : (2 : Int) ^ 60 ≤ 2 ^ 2000 := by
            have e1 : ((2 ^ 60 : Nat) : Int) = 2 ^ 60 := Int.natCast_pow 2 60
            have e2 : ((2 ^ 2000 : Nat) : Int) = 2 ^ 2000 := Int.natCast_pow 2 2000
            have e3 := Nat.pow_le_pow_right (n := 2) (by decide) (show 60 ≤ 2000 by decide)
            omega
          have a : 1 * 2 ^ 2000 ≤ (high - low - 1) * 2 ^ 2000 := Int.mul_le_mul_of_nonneg_right (by omega) (Int.le_trans (by decide) p0)
          omega
      subst eh
      refine ⟨_, rfl, ?_⟩
      rw [← rootI_uniq h0 z0 z3 z4] at q
      exact q
def spLawMul (K : PySem.W.Frag) : Sp := fun vs H Q _ => ∃ (am an : Addr) (p q r s p2 q2 r2 s2 : Int) (N : Nat), vs = [.ref am, .ref an] ∧ SqT K H am [.int p, .int q, .int r, .int s] ∧ SqT K H an [.int p2, .int q2, .int r2, .int s2] ∧ Bd N p ∧ Bd N q ∧ Bd N r ∧ Bd N s ∧ Bd N p2 ∧ Bd N q2 ∧ Bd N r2 ∧ Bd N s2 ∧ N ≤ 400000 ∧ (R.Nw H [.int (p * p2 + q * r2), .int (p * q2 + q * s2), .int (r * p2 + s * r2), .int (r * q2 + s * s2)] Q)
theorem uLawMul {K : PySem.W.Frag} {H : Hp} {Q : VK} {E : XK} {vs : List V} {am an : Addr} {p q r s p2 q2 r2 s2 : Int} {n0 n1 n2 n3 n4 n5 n6 n7 : Nat} (hev : vs = [.ref am, .ref an]) (s0 : SqT K H am [.int p, .int q, .int r, .int s]) (s1 : SqT K H an [.int p2, .int q2, .int r2, .int s2]) (b0 : Bd n0 p) (b1 : Bd n1 q) (b2 : Bd n2 r) (b3 : Bd n3 s) (b4 : Bd n4 p2) (b5 : Bd n5 q2) (b6 : Bd n6 r2) (b7 : Bd n7 s2) (hll : (n0 + n1 + n2 + n3 + n4 + n5 + n6 + n7 ≤ 400000) = True) (kk : R.Nw H [.int (p * p2 + q * r2), .int (p * q2 + q * s2), .int (r * p2 + s * r2), .int (r * q2 + s * s2)] Q) : spLawMul K vs H Q E :=
  have hll := of_eq_true hll
  ⟨am, an, p, q, r, s, p2, q2, r2, s2, n0 + n1 + n2 + n3 + n4 + n5 + n6 + n7, hev, s0, s1, b0.mono (by omega), b1.mono (by omega), b2.mono (by omega), b3.mono (by omega), b4.mono (by omega), b5.mono (by omega), b6.mono (by omega), b7.mono (by omega), hll, kk⟩
theorem okLawMul (T : Txt K mg fa fd) : FnOk P w K mg base CX0 1 (fa 31) (fd 31) ["m", "n"] (spLawMul K) := by
  refine T.F__law_mul.ok scLawMul (fun vs H Q E h => ?_) (fun cdv A outer s H vs Q E hr h => ?_)
  · obtain ⟨am, an, p, q, r, s, p2, q2, r2, s2, N, rfl, h_am, h_an, b_p, b_q, b_r, b_s, b_p2, b_q2, b_r2, b_s2, hN, kk⟩ := h
    rfl
  · obtain ⟨am, an, p, q, r, s, p2, q2, r2, s2, N, rfl, h_am, h_an, b_p, b_q, b_r, b_s, b_p2, b_q2, b_r2, b_s2, hN, kk⟩ := h
    refine ⟨_, (pss_cons (ps_set (i := 2) scLawMul.nd rfl (Or.inl rfl) (pe_lst (pa_cons (pe_op op_add (pe_op op_mulW (pe_ix (ixT K) (pv 0) pe_int (fun _ _ => rfl)) (pe_ix (ixT K) (pv 1) pe_int (fun _ _ => rfl))) (pe_op op_mulW (pe_ix (ixT K) (pv 0) pe_int (fun _ _ => rfl)) (pe_ix (ixT K) (pv 1) pe_int (fun _ _ => rfl)))) (pa_cons (pe_op op_add (pe_op op_mulW (pe_ix (ixT K) (pv 0) pe_int (fun _ _ => rfl)) (pe_ix (ixT K) (pv 1) pe_int (fun _ _ => rfl))) (pe_op op_mulW (pe_ix (ixT K) (pv 0) pe_int (fun _ _ => rfl)) (pe_ix (ixT K) (pv 1) pe_int (fun _ _ => rfl)))) pa_nil))))
      (pss_one (ps_ret (pe_callTy (tupQ K) (by rfl) T.m_tuple (by decide +kernel) (pa_cons (pe_op op_cat (pv 2) (pe_lst (pa_cons (pe_op op_add (pe_op op_mulW (pe_ix (ixT K) (pv 0) pe_int (fun _ _ => rfl)) (pe_ix (ixT K) (pv 1) pe_int (fun _ _ => rfl))) (pe_op op_mulW (pe_ix (ixT K) (pv 0) pe_int (fun _ _ => rfl)) (pe_ix (ixT K) (pv 1) pe_int (fun _ _ => rfl)))) (pa_cons (pe_op op_add (pe_op op_mulW (pe_ix (ixT K) (pv 0) pe_int (fun _ _ => rfl)) (pe_ix (ixT K) (pv 1) pe_int (fun _ _ => rfl))) (pe_op op_mulW (pe_ix (ixT K) (pv 0) pe_int (fun _ _ => rfl)) (pe_ix (ixT K) (pv 1) pe_int (fun _ _ => rfl)))) pa_nil)))) pa_nil))))), ?_⟩
    clean_wf
    all_goals first | omega | exact kk | (refine kk _ _ ?_ (by assumption); (repeat' (first | with_reducible exact Same.refl _ | with_reducible assumption | ((with_reducible apply sameB); with_reducible assumption))))
def spLawWorth (K : PySem.W.Frag) : Sp := fun vs H Q _ => ∃ (aform : Addr) (a b c x y : Int) (N : Nat), vs = [.ref aform, .int x, .int y] ∧ SqT K H aform [.int a, .int b, .int c] ∧ Bd N a ∧ Bd N b ∧ Bd N c ∧ Bd N x ∧ Bd N y ∧ N ≤ 300000 ∧ (Q (.int (a * x * x + b * x * y + c * y * y)) H)
theorem uLawWorth {K : PySem.W.Frag} {H : Hp} {Q : VK} {E : XK} {vs : List V} {aform : Addr} {a b c x y : Int} {n0 n1 n2 n3 n4 : Nat} (hev : vs = [.ref aform, .int x, .int y]) (s0 : SqT K H aform [.int a, .int b, .int c]) (b0 : Bd n0 a) (b1 : Bd n1 b) (b2 : Bd n2 c) (b3 : Bd n3 x) (b4 : Bd n4 y) (hll : (n0 + n1 + n2 + n3 + n4 ≤ 300000) = True) (kk : Q (.int (a * x * x + b * x * y + c * y * y)) H) : spLawWorth K vs H Q E :=
  have hll := of_eq_true hll
  ⟨aform, a, b, c, x, y, n0 + n1 + n2 + n3 + n4, hev, s0, b0.mono (by omega), b1.mono (by omega), b2.mono (by omega), b3.mono (by omega), b4.mono (by omega), hll, kk⟩
theorem okLawWorth (T : Txt K mg fa fd) : FnOk P w K mg base CX0 1 (fa 32) (fd 32) ["form", "x", "y"] (spLawWorth K) := by
  refine T.F__law_worth.ok scLawWorth (fun vs H Q E h => ?_) (fun cdv A outer s H vs Q E hr h => ?_)
  · obtain ⟨aform, a, b, c, x, y, N, rfl, h_aform, b_a, b_b, b_c, b_x, b_y, hN, kk⟩ := h
    rfl
  · obtain ⟨aform, a, b, c, x, y, N, rfl, h_aform, b_a, b_b, b_c, b_x, b_y, hN, kk⟩ := h
    refine ⟨_, (pss_one (ps_ret (pe_op op_add (pe_op op_add (pe_op op_mulW (pe_op op_mulW (pe_ix (ixT K) (pv 0) pe_int (fun _ _ => rfl)) (pv 1)) (pv 1)) (pe_op op_mulW (pe_op op_mulW (pe_ix (ixT K) (pv 0) pe_int (fun _ _ => rfl)) (pv 1)) (pv 2))) (pe_op op_mulW (pe_op op_mulW (pe_ix (ixT K) (pv 0) pe_int (fun _ _ => rfl)) (pv 2)) (pv 2))))), ?_⟩
    clean_wf
    all_goals first | omega | exact kk | (refine kk _ _ ?_ (by assumption); (repeat' (first | with_reducible exact Same.refl _ | with_reducible assumption | ((with_reducible apply sameB); with_reducible assumption))))
def spLawAct (K : PySem.W.Frag) : Sp := fun vs H Q _ => ∃ (aform am : Addr) (a b c p q r s : Int) (N : Nat), vs = [.ref aform, .ref am] ∧ SqT K H aform [.int a, .int b, .int c] ∧ SqT K H am [.int p, .int q, .int r, .int s] ∧ Bd N a ∧ Bd N b ∧ Bd N c ∧ Bd N p ∧ Bd N q ∧ Bd N r ∧ Bd N s ∧ N ≤ 59000 ∧ (R.Nw H [.int (a * p * p + b * p * r + c * r * r), .int (2 * a * p * q + b * (p * s + q * r) + 2 * c * r * s), .int (a * q * q + b * q * s + c * s * s)] Q)
theorem uLawAct {K : PySem.W.Frag} {H : Hp} {Q : VK} {E : XK} {vs : List V} {aform am : Addr} {a b c p q r s : Int} {n0 n1 n2 n3 n4 n5 n6 : Nat} (hev : vs = [.ref aform, .ref am]) (s0 : SqT K H aform [.int a, .int b, .int c]) (s1 : SqT K H am [.int p, .int q, .int r, .int s]) (b0 : Bd n0 a) (b1 : Bd n1 b) (b2 : Bd n2 c) (b3 : Bd n3 p) (b4 : Bd n4 q) (b5 : Bd n5 r) (b6 : Bd n6 s) (hll : (n0 + n1 + n2 + n3 + n4 + n5 + n6 ≤ 59000) = True) (kk : R.Nw H [.int (a * p * p + b * p * r + c * r * r), .int (2 * a * p * q + b * (p * s + q * r) + 2 * c * r * s), .int (a * q * q + b * q * s + c * s * s)] Q) : spLawAct K vs H Q E :=
  have hll := of_eq_true hll
  ⟨aform, am, a, b, c, p, q, r, s, n0 + n1 + n2 + n3 + n4 + n5 + n6, hev, s0, s1, b0.mono (by omega), b1.mono (by omega), b2.mono (by omega), b3.mono (by omega), b4.mono (by omega), b5.mono (by omega), b6.mono (by omega), hll, kk⟩
theorem okLawAct (T : Txt K mg fa fd) : FnOk P w K mg base CX0 2 (fa 33) (fd 33) ["form", "m"] (spLawAct K) := by
  refine T.F__law_act.ok scLawAct (fun vs H Q E h => ?_) (fun cdv A outer s H vs Q E hr h => ?_)
  · obtain ⟨aform, am, a, b, c, p, q, r, s, N, rfl, h_aform, h_am, b_a, b_b, b_c, b_p, b_q, b_r, b_s, hN, kk⟩ := h
    rfl
  · obtain ⟨aform, am, a, b, c, p, q, r, s, N, rfl, h_aform, h_am, b_a, b_b, b_c, b_p, b_q, b_r, b_s, hN, kk⟩ := h
    refine ⟨_, (pss_cons (ps_set (i := 2) scLawAct.nd rfl (Or.inl rfl) (pe_call (sp := spLawWorth K) (okLawWorth T) hr (by rfl) T.G__law_worth T.F__law_worth.kp T.B__law_worth .nil pass0 (pa_cons (pv 0) (pa_cons (pe_ix (ixT K) (pv 1) pe_int (fun _ _ => rfl)) (pa_cons (pe_ix (ixT K) (pv 1) pe_int (fun _ _ => rfl)) pa_nil)))))
      (pss_cons (ps_set (i := 3) scLawAct.nd rfl (Or.inl rfl) (pe_call (sp := spLawWorth K) (okLawWorth T) hr (by rfl) T.G__law_worth T.F__law_worth.kp T.B__law_worth .nil pass0 (pa_cons (pv 0) (pa_cons (pe_ix (ixT K) (pv 1) pe_int (fun _ _ => rfl)) (pa_cons (pe_ix (ixT K) (pv 1) pe_int (fun _ _ => rfl)) pa_nil)))))
      (pss_one (ps_ret (pe_tup (pa_cons (pv 2) (pa_cons (pe_op op_sub (pe_op op_sub (pe_call (sp := spLawWorth K) (okLawWorth T) hr (by rfl) T.G__law_worth T.F__law_worth.kp T.B__law_worth .nil pass0 (pa_cons (pv 0) (pa_cons (pe_op op_add (pe_ix (ixT K) (pv 1) pe_int (fun _ _ => rfl)) (pe_ix (ixT K) (pv 1) pe_int (fun _ _ => rfl))) (pa_cons (pe_op op_add (pe_ix (ixT K) (pv 1) pe_int (fun _ _ => rfl)) (pe_ix (ixT K) (pv 1) pe_int (fun _ _ => rfl))) pa_nil)))) (pv 2)) (pv 3)) (pa_cons (pv 3) pa_nil)))))))), ?_⟩
    rw [← act_mid] at kk
    clean_wf
    all_goals first | omega | exact kk | (refine kk _ _ ?_ (by assumption); (repeat' (first | with_reducible exact Same.refl _ | with_reducible assumption | ((with_reducible apply sameB); with_reducible assumption))))
def Lc4 (i : Nat) (m1 m2 m3 m4 : Int) : Prop := m1 * m4 - m2 * m3 = 1 ∧ m1.natAbs ≤ 3 ^ i ∧ m2.natAbs ≤ 3 ^ i ∧ m3.natAbs ≤ 3 ^ i ∧ m4.natAbs ≤ 3 ^ i
def spLawChange (K : PySem.W.Frag) : Sp := fun vs H Q _ => ∃ (p a : Addr) (N : Nat) (many : Int), vs = [.ref p, .int many] ∧ Dw H p a N ∧ N < 100000 ∧ 0 ≤ many ∧ many ≤ 10 ∧
  ∀ H' t m1 m2 m3 m4, Dw H' p a (N + 31) → Kp p H H' → SqT K H' t [.int m1, .int m2, .int m3, .int m4] → Lc4 many.toNat m1 m2 m3 m4 → Q (.ref t) H'
theorem uLawChange {K : PySem.W.Frag} {H : Hp} {Q : VK} {E : XK} {vs : List V} {p a : Addr} {N : Nat} {many : Int} (e : vs = [.ref p, .int many]) (d : Dw H p a N) (hN : N < 100000) (h0 : 0 ≤ many) (h1 : many ≤ 10)
    (kk : ∀ H' t m1 m2 m3 m4, Dw H' p a (N + 31) → Kp p H H' → SqT K H' t [.int m1, .int m2, .int m3, .int m4] → Lc4 many.toNat m1 m2 m3 m4 → Q (.ref t) H') : spLawChange K vs H Q E := ⟨p, a, N, many, e, d, hN, h0, h1, kk⟩
theorem Lc4.mono {i j : Nat} {m1 m2 m3 m4 : Int} (h : Lc4 i m1 m2 m3 m4) (l : i ≤ j) : Lc4 j m1 m2 m3 m4 := by
  have e : 3 ^ i ≤ 3 ^ j := Nat.pow_le_pow_right (by decide) l
  obtain ⟨h1, h2, h3, h4, h5⟩ := h
  exact ⟨h1, Nat.le_trans h2 e, Nat.le_trans h3 e, Nat.le_trans h4 e, Nat.le_trans h5 e⟩
theorem Lc4.bd {i : Nat} {m1 m2 m3 m4 : Int} (h : Lc4 i m1 m2 m3 m4) (l : i ≤ 10) : Bd 16 m1 ∧ Bd 16 m2 ∧ Bd 16 m3 ∧ Bd 16 m4 := by
  obtain ⟨h1, h2, h3, h4, h5⟩ := h.mono l
  exact ⟨Bd.of h2 (by decide), Bd.of h3 (by decide), Bd.of h4 (by decide), Bd.of h5 (by decide)⟩
theorem two3 {i : Nat} {m x t : Int} (h1 : m.natAbs ≤ 3 ^ i) (h2 : x.natAbs ≤ 3 ^ i) (t1 : -2 ≤ t) (t2 : t ≤ 2) : (m * t + x).natAbs ≤ 3 ^ (i + 1) := by
  have e : (m * t).natAbs ≤ 3 ^ i * 2 := by
    rw [Int.natAbs_mul]
    exact Nat.mul_le_mul h1 (by omega)
  rw [Nat.pow_succ]
  omega
theorem Lc4.s1 {i : Nat} {m1 m2 m3 m4 t : Int} (h : Lc4 i m1 m2 m3 m4) (t1 : -2 ≤ t) (t2 : t ≤ 2) : Lc4 (i + 1) (m1 * 1 + m2 * 0) (m1 * t + m2 * 1) (m3 * 1 + m4 * 0) (m3 * t + m4 * 1) := by
  have k := h.mono (Nat.le_succ i)
  obtain ⟨h1, h2, h3, h4, h5⟩ := h
  obtain ⟨k1, k2, k3, k4, k5⟩ := k
  rw [Int.mul_one, Int.mul_one, Int.mul_one, Int.mul_one, Int.mul_zero, Int.mul_zero, Int.add_zero, Int.add_zero]
  refine ⟨?_, k2, two3 h2 h3 t1 t2, k4, two3 h4 h5 t1 t2⟩
  grind
theorem Lc4.s2 {i : Nat} {m1 m2 m3 m4 t : Int} (h : Lc4 i m1 m2 m3 m4) (t1 : -2 ≤ t) (t2 : t ≤ 2) : Lc4 (i + 1) (m1 * 1 + m2 * t) (m1 * 0 + m2 * 1) (m3 * 1 + m4 * t) (m3 * 0 + m4 * 1) := by
  have k := h.mono (Nat.le_succ i)
  obtain ⟨h1, h2, h3, h4, h5⟩ := h
  obtain ⟨k1, k2, k3, k4, k5⟩ := k
  rw [Int.mul_one, Int.mul_one, Int.mul_one, Int.mul_one, Int.mul_zero, Int.mul_zero, Int.zero_add, Int.zero_add, Int.add_comm m1, Int.add_comm m3]
  refine ⟨?_, two3 h3 h2 t1 t2, k3, two3 h5 h4 t1 t2, k5⟩
  grind
theorem Lc4.s3 {i : Nat} {m1 m2 m3 m4 : Int} (h : Lc4 i m1 m2 m3 m4) : Lc4 (i + 1) (m1 * 0 + m2 * 1) (m1 * (-1) + m2 * 0) (m3 * 0 + m4 * 1) (m3 * (-1) + m4 * 0) := by
  have k := h.mono (Nat.le_succ i)
  obtain ⟨h1, h2, h3, h4, h5⟩ := h
  obtain ⟨k1, k2, k3, k4, k5⟩ := k
  refine ⟨by grind, by omega, by omega, by omega, by omega⟩
theorem okLawChange (T : Txt K mg fa fd) : FnOk P w K mg base CX0 2 (fa 34) (fd 34) ["state", "many"] (spLawChange K) := by
  refine T.F__law_change.ok scLawChange (fun vs H Q E h => ?_) (fun cdv A outer s H vs Q E hr h => ?_)
  · obtain ⟨p, a, N, many, rfl, d, hN, h0, h10, kk⟩ := h
    rfl
  · obtain ⟨p, a, N, many, rfl, d, hN, h0, h10, kk⟩ := h
    refine ⟨_, (pss_cons (ps_set (i := 2) scLawChange.nd rfl (Or.inl rfl) (pe_tup (pa_cons pe_int (pa_cons pe_int (pa_cons pe_int (pa_cons pe_int pa_nil))))))
      (pss_cons (ps_for PassesOwn.never rfl (pi_range1 (by rfl) T.m_range (pa_cons (pe_call (sp := spLawNext K) (okLawNext T) hr (by rfl) T.G__law_next T.F__law_next.kp T.B__law_next .nil pass0 (pa_cons (pv 0) (pa_cons (pe_op op_add (pv 1) pe_int) pa_nil))) pa_nil)) (pg_name (i := 3) scLawChange.nd rfl (Or.inl rfl))
      (pss_cons (ps_set (i := 4) scLawChange.nd rfl (Or.inl rfl) (pe_op op_sub (pe_call (sp := spLawNext K) (okLawNext T) hr (by rfl) T.G__law_next T.F__law_next.kp T.B__law_next .nil pass0 (pa_cons (pv 0) (pa_cons pe_int pa_nil))) pe_int))
        (pss_one (ps_set (i := 2) scLawChange.nd rfl (Or.inl rfl) (pe_call (sp := spLawMul K) (okLawMul T) hr (by rfl) T.G__law_mul T.F__law_mul.kp T.B__law_mul .nil pass0 (pa_cons (pv 2) (pa_cons (pe_ix (ixL K) (pe_lst (pa_cons (pe_tup (pa_cons pe_int (pa_cons (pv 4) (pa_cons pe_int (pa_cons pe_int pa_nil))))) (pa_cons (pe_tup (pa_cons pe_int (pa_cons pe_int (pa_cons (pv 4) (pa_cons pe_int pa_nil))))) (pa_cons (pe_tup (pa_cons pe_int (pa_cons (pe_un un_neg pe_int) (pa_cons pe_int (pa_cons pe_int pa_nil))))) pa_nil)))) (pe_call (sp := spLawNext K) (okLawNext T) hr (by rfl) T.G__law_next T.F__law_next.kp T.B__law_next .nil pass0 (pa_cons (pv 0) (pa_cons pe_int pa_nil))) (fun _ _ => rfl)) pa_nil)))))))
      (pss_one (ps_ret (pv 2))))), ?_⟩
    clean_wf
    intro r1 H1 r1a r1b d1 k1
    clean_wf
    refine R.forN (lo := 0) (n := r1.toNat) (fun i σ H' => ∃ (b : Addr) (m1 m2 m3 m4 : Int) (x3 x4 : Option V), σ = [some (.ref p), some (.int many), some (.ref b), x3, x4] ∧ Dw H' p a (N + 1 + 2 * i) ∧ Kp p H1 H' ∧ SqT K H' b [.int m1, .int m2, .int m3, .int m4] ∧ Lc4 i m1 m2 m3 m4)
      ?_ (fun i σ H2 hi hPv => ?_) (fun σ H2 hPv => ?_)
    · exact ⟨_, 1, 0, 0, 1, _, _, rfl, d1, Kp.refl, by clean_wf, by decide, by decide, by decide, by decide, by decide⟩
    · obtain ⟨b, m1, m2, m3, m4, x3, x4, rfl, d2, k2, s2, l2⟩ := hPv
      have bd := l2.bd (by omega)
      obtain ⟨b1, b2, b3, b4⟩ := bd
      clean_wf
      intro r2 H3 r2a r2b d3 k3
      clean_wf
      intro r3 H4 r3a r3b d4 k4
      have key : ∀ {σ : L2.St} {t1 t2 t3 t4 : Int} {H5 : Hp} {c : Addr}, σ = [some (.ref p), some (.int many), some (.ref c), some (.int (0 + ↑i)), some (.int (r2 - 2))] → Dw H5 p a (N + 1 + 2 * i + 1 + 1) → Kp p H4 H5 →
          SqT K H5 c [.int (m1 * t1 + m2 * t3), .int (m1 * t2 + m2 * t4), .int (m3 * t1 + m4 * t3), .int (m3 * t2 + m4 * t4)] → Lc4 (i + 1) (m1 * t1 + m2 * t3) (m1 * t2 + m2 * t4) (m3 * t1 + m4 * t3) (m3 * t2 + m4 * t4) →
          ∃ (b : Addr) (m1 m2 m3 m4 : Int) (x3 x4 : Option V), σ = [some (.ref p), some (.int many), some (.ref b), x3, x4] ∧ Dw H5 p a (N + 1 + 2 * (i + 1)) ∧ Kp p H1 H5 ∧ SqT K H5 b [.int m1, .int m2, .int m3, .int m4] ∧ Lc4 (i + 1) m1 m2 m3 m4 :=
        fun e d5 k5 s5 l5 => ⟨_, _, _, _, _, _, _, e, d5, by sizeOf_list_dec, s5, l5⟩
      obtain rfl | rfl | rfl : r3 = 0 ∨ r3 = 1 ∨ r3 = 2 := by omega
      · skip
        clean_wf
        refine key (t1 := 1) (t2 := r2 - 2) (t3 := 0) (t4 := 1) rfl ?_ ?_ ?_ ?_
        · skip
          clean_wf
        · sizeOf_list_dec
        · skip
          clean_wf
        · exact l2.s1 (by omega) (by omega)
      · skip
        clean_wf
        refine key (t1 := 1) (t2 := 0) (t3 := r2 - 2) (t4 := 1) rfl ?_ ?_ ?_ ?_
        · skip
          clean_wf
        · sizeOf_list_dec
        · skip
          clean_wf
        · exact l2.s2 (by omega) (by omega)
      · skip
        clean_wf
        refine key (t1 := 0) (t2 := -1) (t3 := 1) (t4 := 0) rfl ?_ ?_ ?_ ?_
        · skip
          clean_wf
        · sizeOf_list_dec
        · skip
          clean_wf
        · exact l2.s3
    · obtain ⟨b, m1, m2, m3, m4, x3, x4, rfl, d2, k2, s2, l2⟩ := hPv
      clean_wf
      exact kk _ _ _ _ _ _ (d2.mono (by omega)) (by sizeOf_list_dec) s2 (l2.mono (by omega))
def spLawSplit (K : PySem.W.Frag) : Sp := fun vs H Q _ => ∃ (p0 q0 : Addr) (N : Nat), vs = [.ref p0] ∧ Dw H p0 q0 N ∧ N ≤ 100000 ∧
  ∀ H' t a b c k, Dw H' p0 q0 (N + 10) → Kp p0 H H' → SqT K H' t [.int a, .int b, .int c] → SF k a b c → a.natAbs ≤ 100 → b.natAbs ≤ 100 → c.natAbs ≤ 100 → k ≤ 1000 → Q (.ref t) H'
theorem uLawSplit {K : PySem.W.Frag} {H : Hp} {Q : VK} {E : XK} {vs : List V} {p0 q0 : Addr} {N : Nat} (e : vs = [.ref p0]) (d : Dw H p0 q0 N) (hN : N ≤ 100000)
    (kk : ∀ H' t a b c k, Dw H' p0 q0 (N + 10) → Kp p0 H H' → SqT K H' t [.int a, .int b, .int c] → SF k a b c → a.natAbs ≤ 100 → b.natAbs ≤ 100 → c.natAbs ≤ 100 → k ≤ 1000 → Q (.ref t) H') : spLawSplit K vs H Q E := ⟨p0, q0, N, e, d, hN, kk⟩
theorem sf_of {g p q r s : Int} (g0 : g = 1 ∨ g = 2) (h : p * s ≠ q * r) (hp : p.natAbs ≤ 5) (hq : q.natAbs ≤ 5) (hr : r.natAbs ≤ 5) (hs : s.natAbs ≤ 5) :
    SF (g * ((p * s - q * r).natAbs : Int)) (g * p * r) (g * (p * s + q * r)) (g * q * s) ∧ (g * p * r).natAbs ≤ 100 ∧ (g * (p * s + q * r)).natAbs ≤ 100 ∧ (g * q * s).natAbs ≤ 100 ∧ g * ((p * s - q * r).natAbs : Int) ≤ 1000 := by
  have m1 : (p * r).natAbs ≤ 5 * 5 := by rw [Int.natAbs_mul]; exact Nat.mul_le_mul hp hr
  have m2 : (p * s).natAbs ≤ 5 * 5 := by rw [Int.natAbs_mul]; exact Nat.mul_le_mul hp hs
  have m3 : (q * r).natAbs ≤ 5 * 5 := by rw [Int.natAbs_mul]; exact Nat.mul_le_mul hq hr
  have m4 : (q * s).natAbs ≤ 5 * 5 := by rw [Int.natAbs_mul]; exact Nat.mul_le_mul hq hs
  have e : dsc (g * p * r) (g * (p * s + q * r)) (g * q * s) = g * g * ((p * s - q * r) * (p * s - q * r)) := by
    unfold dsc
    grind
  have e2 : g * ((p * s - q * r).natAbs : Int) * (g * ((p * s - q * r).natAbs : Int)) = g * g * ((p * s - q * r) * (p * s - q * r)) := by
    have : ((p * s - q * r).natAbs : Int) * ((p * s - q * r).natAbs : Int) = (p * s - q * r) * (p * s - q * r) := by
      rcases Int.natAbs_eq (p * s - q * r) with h | h <;> (conv => rhs; rw [h]) <;> grind
    grind
  rw [Int.mul_assoc g p r, Int.mul_assoc g q s] at *
  generalize p * r = x1 at *
  generalize p * s = x2 at *
  generalize q * r = x3 at *
  generalize q * s = x4 at *
  refine ⟨⟨by rw [e, e2], ?_⟩, ?_, ?_, ?_, ?_⟩
  all_goals rcases g0 with rfl | rfl <;> omega
theorem okLawSplit (T : Txt K mg fa fd) : FnOk P w K mg base CX0 2 (fa 35) (fd 35) ["state"] (spLawSplit K) := by
  refine T.F__law_split.ok scLawSplit (fun vs H Q E h => ?_) (fun cdv A outer s H vs Q E hr h => ?_)
  · obtain ⟨p0, q0, N, rfl, d0, hN, kk⟩ := h
    rfl
  · obtain ⟨p0, q0, N, rfl, d0, hN, kk⟩ := h
    refine ⟨_, (pss_cons (ps_asg (pe_lc (own := [("k", 6)]) (g := gName 6) (tt := tYes) rfl scLawSplit.nd (pi_range1 (by rfl) T.m_range (pa_cons pe_int pa_nil)) (blkOk_by (own := [("k", 6)]) (N := ["state", "p", "q", "r", "s", "g", "k"]) (sc := defScope sLawSplit) (by decide +kernel)) (fun _ _ _ _ _ => (pg_name (i := 6) scLawSplit.nd rfl (Or.inl rfl))) (fun _ _ _ _ _ => pts_nil) (fun _ _ _ _ _ => (pe_op op_sub (pe_call (sp := spLawNext K) (okLawNext T) hr (by rfl) T.G__law_next T.F__law_next.kp T.B__law_next .nil pass0 (pa_cons (pv 0) (pa_cons pe_int pa_nil))) pe_int))) (pgU K 4 (by rfl) (pgs_cons (pg_name (i := 1) scLawSplit.nd rfl (Or.inl rfl)) (pgs_cons (pg_name (i := 2) scLawSplit.nd rfl (Or.inl rfl)) (pgs_cons (pg_name (i := 3) scLawSplit.nd rfl (Or.inl rfl)) (pgs_cons (pg_name (i := 4) scLawSplit.nd rfl (Or.inl rfl)) pgs_nil))))))
      (C8.pss_cut (ps_if (pt_cmp (pc_eqI (pe_op op_mulW (pv 1) (pv 4)) (pe_op op_mulW (pv 2) (pv 3))))
      (pss_one (ps_asg (pe_tup (pa_cons pe_int (pa_cons (pe_call (sp := spLawNext K) (okLawNext T) hr (by rfl) T.G__law_next T.F__law_next.kp T.B__law_next .nil pass0 (pa_cons (pv 0) (pa_cons pe_int pa_nil))) (pa_cons pe_int (pa_cons (pe_op op_add pe_int (pe_call (sp := spLawNext K) (okLawNext T) hr (by rfl) T.G__law_next T.F__law_next.kp T.B__law_next .nil pass0 (pa_cons (pv 0) (pa_cons pe_int pa_nil)))) pa_nil))))) (pgT K 4 (by rfl) (pgs_cons (pg_name (i := 1) scLawSplit.nd rfl (Or.inl rfl)) (pgs_cons (pg_name (i := 2) scLawSplit.nd rfl (Or.inl rfl)) (pgs_cons (pg_name (i := 3) scLawSplit.nd rfl (Or.inl rfl)) (pgs_cons (pg_name (i := 4) scLawSplit.nd rfl (Or.inl rfl)) pgs_nil)))))))
      pss_nil)
      (pss_cons (ps_set (i := 5) scLawSplit.nd rfl (Or.inl rfl) (pe_op op_add pe_int (pe_op op_fdiv (pe_call (sp := spLawNext K) (okLawNext T) hr (by rfl) T.G__law_next T.F__law_next.kp T.B__law_next .nil pass0 (pa_cons (pv 0) (pa_cons pe_int pa_nil))) pe_int)))
      (pss_one (ps_ret (pe_tup (pa_cons (pe_op op_mulW (pe_op op_mulW (pv 5) (pv 1)) (pv 3)) (pa_cons (pe_op op_mulW (pv 5) (pe_op op_add (pe_op op_mulW (pv 1) (pv 4)) (pe_op op_mulW (pv 2) (pv 3)))) (pa_cons (pe_op op_mulW (pe_op op_mulW (pv 5) (pv 2)) (pv 4)) pa_nil))))))))), ?_⟩
    clean_wf
    refine R.lcI (c := 1) (fun x => x.natAbs ≤ 5) (by decide) d0 (fun i H' Q' hi d k q => ?_) (fun H2 D xs hD hl hx d2 k2 nD Dp => ?_)
    · skip
      clean_wf
      refine ⟨rfl, ?_⟩
      clean_wf
      intro r H3 ra rb d3 k3
      clean_wf
      exact q _ _ (by omega) d3 k3
    obtain ⟨m1, m2, m3, m4, rfl⟩ : ∃ m1 m2 m3 m4, xs = [m1, m2, m3, m4] := by
      match xs, hl with
      | [a, b, c, d], _ => exact ⟨a, b, c, d, rfl⟩
    have h1 := hx m1 (by simp)
    have h2 := hx m2 (by simp)
    have h3 := hx m3 (by simp)
    have h4 := hx m4 (by simp)
    clear hx hl
    replace hD : H2 D = some (.lst [.int m1, .int m2, .int m3, .int m4]) := hD
    refine r_gunl (SqL.of hD) rfl ?_
    have c1 : Bd 8 m1 := Bd.of h1 (by decide)
    have c2 : Bd 8 m2 := Bd.of h2 (by decide)
    have c3 : Bd 8 m3 := Bd.of h3 (by decide)
    have c4 : Bd 8 m4 := Bd.of h4 (by decide)
    clean_wf
    refine R.cut (Mid := fun σ H' => ∃ (x5 x6 : Option V) (p q r s : Int), σ = [some (.ref p0), some (.int p), some (.int q), some (.int r), some (.int s), x5, x6] ∧ Dw H' p0 q0 (N + 6) ∧ Kp p0 H H' ∧ p * s ≠ q * r ∧ p.natAbs ≤ 5 ∧ q.natAbs ≤ 5 ∧ r.natAbs ≤ 5 ∧ s.natAbs ≤ 5) ?_ (fun σ H3 hM => ?_)
    · skip
      clean_wf
      refine way2 (fun z => ?_) (fun z => ?_)
      · skip
        clean_wf
        intro r1 H3 r1a r1b d3 k3
        clean_wf
        intro r2 H4 r2a r2b d4 k4
        clean_wf
        refine ⟨_, _, 1, r1, 1, 3 + r2, rfl, d4.same sn, ?_, by omega, by omega, by omega, by omega, by omega⟩
        sizeOf_list_dec
      · skip
        clean_wf
        exact ⟨_, _, m1, m2, m3, m4, rfl, d2.mono (by show N + 4 ≤ N + 6; omega), k2, z, h1, h2, h3, h4⟩
    · obtain ⟨x5, x6, p, q, r, s, rfl, d3, k3, hne, g1, g2, g3, g4⟩ := hM
      clear c1 c2 c3 c4
      have c1 : Bd 8 p := Bd.of g1 (by decide)
      have c2 : Bd 8 q := Bd.of g2 (by decide)
      have c3 : Bd 8 r := Bd.of g3 (by decide)
      have c4 : Bd 8 s := Bd.of g4 (by decide)
      clean_wf
      intro r1 H4 r1a r1b d4 k4
      clean_wf
      obtain ⟨f, f1, f2, f3, f4⟩ := sf_of (g := 1 + r1 / 3) (by omega) hne g1 g2 g3 g4
      refine kk _ _ _ _ _ _ ((d4.same sn).mono (by omega)) ?_ (SqT.of ht) f f1 f2 f3 f4
      sizeOf_list_dec
structure LinOk (a b c T f0 f1 s0 s1 : Int) : Prop where
  t0 : T ≠ 0
  w0 : f0 * s1 - f1 * s0 ≠ 0
  v : ∀ x y, T * fA a b c x y = (f0 * x + f1 * y) * (s0 * x + s1 * y)
  bt : T.natAbs ≤ 400000
  b1 : Bd 30 f0
  b2 : Bd 30 f1
  b3 : Bd 30 s0
  b4 : Bd 30 s1
def spLawLines (K : PySem.W.Frag) : Sp := fun vs H Q _ => ∃ (af : Addr) (a b c k : Int), vs = [.ref af] ∧ SqT K H af [.int a, .int b, .int c] ∧ SF k a b c ∧ a.natAbs ≤ 100000 ∧ b.natAbs ≤ 100000 ∧ c.natAbs ≤ 100000 ∧ k ≤ 1000 ∧
  ∀ H' L t1 t2 T f0 f1 s0 s1, Same H H' → H' L = some (.lst [.int T, .ref t1, .ref t2]) → SqT K H' t1 [.int f0, .int f1] → SqT K H' t2 [.int s0, .int s1] → LinOk a b c T f0 f1 s0 s1 → Q (.ref L) H'
theorem okLawLines (T : Txt K mg fa fd) : FnOk P w K mg base CX0 2 (fa 36) (fd 36) ["form"] (spLawLines K) := by
  refine T.F__law_lines.ok scLawLines (fun vs H Q E h => ?_) (fun cdv A outer s H vs Q E hr h => ?_)
  · obtain ⟨af, a, b, c, k, rfl, hs, F, n1, n2, n3, n4, kk⟩ := h
    rfl
  · obtain ⟨af, a, b, c, k, rfl, hs, F, n1, n2, n3, n4, kk⟩ := h
    refine ⟨_, (pss_cons (ps_asg (pv 0) (pgT K 3 (by rfl) (pgs_cons (pg_name (i := 1) scLawLines.nd rfl (Or.inl rfl)) (pgs_cons (pg_name (i := 2) scLawLines.nd rfl (Or.inl rfl)) (pgs_cons (pg_name (i := 3) scLawLines.nd rfl (Or.inl rfl)) pgs_nil)))))
      (pss_cons (ps_set (i := 4) scLawLines.nd rfl (Or.inl rfl) (pe_call (sp := spLawRoot K) (okLawRoot T) hr (by rfl) T.G__law_root T.F__law_root.kp T.B__law_root .nil pass0 (pa_cons (pe_op op_sub (pe_op op_mulW (pv 2) (pv 2)) (pe_op op_mulW (pe_op op_mulW pe_int (pv 1)) (pv 3))) pa_nil)))
      (pss_cons (ps_if (pt_cmp (pc_eqI (pv 1) pe_int))
      (pss_one (ps_ret (pe_lst (pa_cons pe_int (pa_cons (pe_tup (pa_cons pe_int (pa_cons pe_int pa_nil))) (pa_cons (pe_tup (pa_cons (pv 2) (pa_cons (pv 3) pa_nil))) pa_nil))))))
      pss_nil)
      (pss_one (ps_ret (pe_lst (pa_cons (pe_op op_mulW pe_int (pv 1)) (pa_cons (pe_tup (pa_cons (pe_op op_mulW pe_int (pv 1)) (pa_cons (pe_op op_add (pv 2) (pv 4)) pa_nil))) (pa_cons (pe_tup (pa_cons (pe_op op_mulW pe_int (pv 1)) (pa_cons (pe_op op_sub (pv 2) (pv 4)) pa_nil))) pa_nil))))))))), ?_⟩
    have ba : Bd 20 a := Bd.of n1 (by decide)
    have bb : Bd 20 b := Bd.of n2 (by decide)
    have bc : Bd 20 c := Bd.of n3 (by decide)
    have k0 := F.k0
    have hd : b * b - 4 * a * c = k * k := F.d
    have hr := F.root
    have hk2 : k * k ≤ 1000 * 1000 := Int.mul_le_mul n4 n4 (by omega) (by decide)
    have bk : Bd 20 k := Bd.of (m := 1000) (by omega) (by decide)
    have kk0 : 0 ≤ k * k := Int.mul_nonneg (by omega) (by omega)
    clean_wf
    refine ⟨_, rfl, by rw [hd]; exact kk0, by show _ < (1152921504606846976 : Int); rw [hd]; omega, ?_⟩
    rw [hr]
    clean_wf
    refine way2 (fun z => ?_) (fun z => ?_)
    · skip
      clean_wf
      refine kk _ _ _ _ 1 0 1 b c ?_ ht ?_ ?_ ⟨by decide, ?_, fun x y => ?_, by decide, by unfold Bd; decide, by unfold Bd; decide, bb.mono (by decide), bc.mono (by decide)⟩
      · array_mem_dec
      · simp_wf
      · simp_wf
      · intro h
        have hb : b = 0 := by omega
        rw [hb, z] at hd
        have : 0 < k * k := Int.mul_pos k0 k0
        omega
      · rw [z]
        unfold fA
        exact lin_0 b c x y
    · skip
      clean_wf
      refine kk _ _ _ _ (4 * a) (2 * a) (b + k) (2 * a) (b - k) ?_ ht ?_ ?_ ⟨by omega, ?_, fun x y => ?_, by omega, by (apply bdm; clean_wf), by (apply bdm; clean_wf), by (apply bdm; clean_wf), by (apply bdm; clean_wf)⟩
      · array_mem_dec
      · simp_wf
      · simp_wf
      · rw [lin_w]
        intro h
        rcases Int.mul_eq_zero.mp h with h | h
        · omega
        · omega
      · exact lin_v hd
/-- what is found so far -/
structure Fd (a b c n : Int) (ps : List (Int × Int)) : Prop where
  nd : ps.Nodup
  ok : ∀ v ∈ ps, fA a b c v.1 v.2 = n
def Cmp (a b c n f0 f1 s0 s1 : Int) (i : Nat) (ps : List (Int × Int)) : Prop := ∀ v : Int × Int, fA a b c v.1 v.2 = n → ((f0 * v.1 + f1 * v.2).natAbs ≤ i ∨ (s0 * v.1 + s1 * v.2).natAbs ≤ i) → v ∈ ps
def Dn (a b c n f0 f1 : Int) (js : List Int) (ps : List (Int × Int)) : Prop := ∀ v : Int × Int, fA a b c v.1 v.2 = n → f0 * v.1 + f1 * v.2 ∈ js → v ∈ ps
section
variable {a b c n T f0 f1 s0 s1 : Int} {ps qs : List (Int × Int)}
theorem LinOk.tn (LO : LinOk a b c T f0 f1 s0 s1) {v : Int × Int} (h : fA a b c v.1 v.2 = n) : (f0 * v.1 + f1 * v.2) * (s0 * v.1 + s1 * v.2) = T * n := by rw [← h, LO.v]
theorem cmp_zero (LO : LinOk a b c T f0 f1 s0 s1) (t0 : T * n ≠ 0) : Cmp a b c n f0 f1 s0 s1 0 ps := by
  intro v hv h
  have e := LO.tn hv
  refine absurd ?_ t0
  rw [← e]
  rcases h with h | h
  · rw [show f0 * v.1 + f1 * v.2 = 0 by omega, Int.zero_mul]
  · rw [show s0 * v.1 + s1 * v.2 = 0 by omega, Int.mul_zero]
theorem cmp_skip (LO : LinOk a b c T f0 f1 s0 s1) {i : Nat} (h : ¬ T * n % (1 + (i : Int)) = 0) (hc : Cmp a b c n f0 f1 s0 s1 i ps) : Cmp a b c n f0 f1 s0 s1 (i + 1) ps := by
  intro v hv hm
  have e := LO.tn hv
  have key : ∀ x : Int, x ∣ T * n → x.natAbs ≠ i + 1 := by
    intro x hx k
    refine h (Int.emod_eq_zero_of_dvd ?_)
    have : (1 + (i : Int)).natAbs ∣ x.natAbs := by rw [k]; exact ⟨1, by omega⟩
    exact Int.dvd_trans (Int.natAbs_dvd_natAbs.mp this) hx
  have k1 := key _ ⟨_, e.symm⟩
  have k2 := key (s0 * v.1 + s1 * v.2) ⟨f0 * v.1 + f1 * v.2, by rw [← e, Int.mul_comm]⟩
  exact hc v hv (by omega)
theorem cmp_done (LO : LinOk a b c T f0 f1 s0 s1) {i : Nat} (h : T * n % (1 + (i : Int)) = 0) (hc : Cmp a b c n f0 f1 s0 s1 i qs) (sub : ∀ v ∈ qs, v ∈ ps)
    (hd : Dn a b c n f0 f1 [1 + (i : Int), -(1 + (i : Int)), (T * n).fdiv (1 + (i : Int)), -((T * n).fdiv (1 + (i : Int)))] ps) : Cmp a b c n f0 f1 s0 s1 (i + 1) ps := by
  intro v hv hm
  have e := LO.tn hv
  by_cases z : (f0 * v.1 + f1 * v.2).natAbs ≤ i ∨ (s0 * v.1 + s1 * v.2).natAbs ≤ i
  · exact sub v (hc v hv z)
  · refine hd v hv ?_
    generalize f0 * v.1 + f1 * v.2 = A at *
    generalize s0 * v.1 + s1 * v.2 = B at *
    simp only [List.mem_cons, List.not_mem_nil, or_false]
    by_cases y : A.natAbs = i + 1
    · omega
    · have yb : B.natAbs = i + 1 := by omega
      have st : (1 + (i : Int)) ≠ 0 := by omega
      have yb2 : B = 1 + (i : Int) ∨ B = -(1 + (i : Int)) := by omega
      rcases yb2 with yb2 | yb2
      · have : (T * n).fdiv (1 + (i : Int)) = A := by rw [← e, yb2, Int.mul_fdiv_cancel _ st]
        omega
      · have : (T * n).fdiv (1 + (i : Int)) = -A := by rw [← e, yb2, Int.mul_neg, ← Int.neg_mul, Int.mul_fdiv_cancel _ st]
        omega
theorem cmp_all (LO : LinOk a b c T f0 f1 s0 s1) {i : Nat} (hc : Cmp a b c n f0 f1 s0 s1 i ps) (hi : ((T * n).natAbs : Int) < ((i : Int) + 1) * ((i : Int) + 1)) (v : Int × Int) (hv : fA a b c v.1 v.2 = n) : v ∈ ps := by
  refine hc v hv ?_
  have e := LO.tn hv
  by_cases z : (f0 * v.1 + f1 * v.2).natAbs ≤ i ∨ (s0 * v.1 + s1 * v.2).natAbs ≤ i
  · exact z
  · exfalso
    have h1 : (i + 1) * (i + 1) ≤ (f0 * v.1 + f1 * v.2).natAbs * (s0 * v.1 + s1 * v.2).natAbs := Nat.mul_le_mul (by omega) (by omega)
    rw [← Int.natAbs_mul, e] at h1
    have h2 : (((i + 1) * (i + 1) : Nat) : Int) = ((i : Int) + 1) * ((i : Int) + 1) := by rw [Int.natCast_mul]; rfl
    omega
theorem one_ok {t st one : Int} (h0 : t ≠ 0) (hs : st ≠ 0) (h : t % st = 0) (ho : one ∈ [st, -st, t.fdiv st, -(t.fdiv st)]) : one ≠ 0 ∧ one * t.fdiv one = t ∧ one.natAbs ≤ t.natAbs := by
  have hd := Int.dvd_of_emod_eq_zero h
  obtain ⟨m, hm⟩ := hd
  have em : t.fdiv st = m := by rw [hm, Int.mul_fdiv_cancel_left _ hs]
  rw [em] at ho
  have dv : one ∣ t := by
    simp only [List.mem_cons, List.not_mem_nil, or_false] at ho
    rcases ho with rfl | rfl | rfl | rfl
    · exact ⟨m, hm⟩
    · exact ⟨-m, by rw [hm, Int.neg_mul_neg]⟩
    · exact ⟨st, by rw [hm, Int.mul_comm]⟩
    · exact ⟨-st, by rw [hm, Int.neg_mul_neg, Int.mul_comm]⟩
  have o0 : one ≠ 0 := by
    rintro rfl
    exact h0 (Int.zero_dvd.mp dv)
  obtain ⟨q, hq⟩ := dv
  refine ⟨o0, by rw [hq, Int.mul_fdiv_cancel_left _ o0], ?_⟩
  rw [hq, Int.natAbs_mul]
  refine Nat.le_mul_of_pos_right _ ?_
  rcases Nat.eq_zero_or_pos q.natAbs with z | z
  · exfalso
    have : q = 0 := by omega
    rw [this, Int.mul_zero] at hq
    exact h0 hq
  · exact z
theorem cand_in (LO : LinOk a b c T f0 f1 s0 s1) {one other : Int} (h : one * other = T * n) (h1 : (one * s1 - other * f1).fmod (f0 * s1 - f1 * s0) = 0) (h2 : (f0 * other - s0 * one).fmod (f0 * s1 - f1 * s0) = 0) :
    fA a b c ((one * s1 - other * f1).fdiv (f0 * s1 - f1 * s0)) ((f0 * other - s0 * one).fdiv (f0 * s1 - f1 * s0)) = n ∧ f0 * ((one * s1 - other * f1).fdiv (f0 * s1 - f1 * s0)) + f1 * ((f0 * other - s0 * one).fdiv (f0 * s1 - f1 * s0)) = one := by
  have w0 := LO.w0
  have e1 := Int.fdiv_mul_cancel_of_fmod_eq_zero h1
  have e2 := Int.fdiv_mul_cancel_of_fmod_eq_zero h2
  generalize (one * s1 - other * f1).fdiv (f0 * s1 - f1 * s0) = X at *
  generalize (f0 * other - s0 * one).fdiv (f0 * s1 - f1 * s0) = Y at *
  have g1 : f0 * X + f1 * Y = one := by
    refine Int.eq_of_mul_eq_mul_right w0 ?_
    have : (f0 * X + f1 * Y) * (f0 * s1 - f1 * s0) = f0 * (X * (f0 * s1 - f1 * s0)) + f1 * (Y * (f0 * s1 - f1 * s0)) := by grind
    rw [this, e1, e2]
    grind
  have g2 : s0 * X + s1 * Y = other := by
    refine Int.eq_of_mul_eq_mul_right w0 ?_
    have : (s0 * X + s1 * Y) * (f0 * s1 - f1 * s0) = s0 * (X * (f0 * s1 - f1 * s0)) + s1 * (Y * (f0 * s1 - f1 * s0)) := by grind
    rw [this, e1, e2]
    grind
  refine ⟨Int.eq_of_mul_eq_mul_left LO.t0 ?_, g1⟩
  rw [LO.v, g1, g2, h]
theorem cand_of (LO : LinOk a b c T f0 f1 s0 s1) {one other : Int} {v : Int × Int} (o0 : one ≠ 0) (h : one * other = T * n) (hv : fA a b c v.1 v.2 = n) (ho : f0 * v.1 + f1 * v.2 = one) :
    one * s1 - other * f1 = (f0 * s1 - f1 * s0) * v.1 ∧ f0 * other - s0 * one = (f0 * s1 - f1 * s0) * v.2 := by
  have e := LO.tn hv
  rw [ho, ← h] at e
  have e2 := Int.eq_of_mul_eq_mul_left o0 e
  rw [← e2, ← ho]
  constructor <;> grind
theorem cand_eq {W X Y : Int} {v : Int × Int} (w0 : W ≠ 0) (h1 : X = W * v.1) (h2 : Y = W * v.2) : v = (X.fdiv W, Y.fdiv W) := by
  rw [h1, h2, Int.mul_fdiv_cancel_left _ w0, Int.mul_fdiv_cancel_left _ w0]
theorem nodup_snoc {l : List (Int × Int)} {x : Int × Int} (h : l.Nodup) (n : x ∉ l) : (l ++ [x]).Nodup := by
  refine List.nodup_append.mpr ⟨h, List.pairwise_singleton _ _, ?_⟩
  intro a ha b hb e
  rw [List.mem_singleton.mp hb] at e
  rw [e] at ha
  exact n ha
theorem dn_snoc {js : List Int} {one : Int} (hd : Dn a b c n f0 f1 js ps) (sub : ∀ v ∈ ps, v ∈ qs) (h : ∀ v : Int × Int, fA a b c v.1 v.2 = n → f0 * v.1 + f1 * v.2 = one → v ∈ qs) : Dn a b c n f0 f1 (js ++ [one]) qs := by
  intro v hv hm
  rcases List.mem_append.mp hm with k | k
  · exact sub v (hd v hv k)
  · exact h v hv (List.mem_singleton.mp k)
end
def spLawSearch (K : PySem.W.Frag) : Sp := fun vs H Q _ => ∃ (af : Addr) (a b c k n : Int), vs = [.ref af, .int n] ∧ SqT K H af [.int a, .int b, .int c] ∧ SF k a b c ∧ a.natAbs ≤ 100000 ∧ b.natAbs ≤ 100000 ∧ c.natAbs ≤ 100000 ∧ k ≤ 1000 ∧ n ≠ 0 ∧ n.natAbs ≤ 400 ∧
  ∀ H' L ws qs, Same H H' → H L = none → H' L = some (.lst ws) → Pd H' ws qs → qs.Pairwise ltp → (∀ v, v ∈ qs ↔ fA a b c v.1 v.2 = n) → Q (.ref L) H'
theorem okLawSearch (T : Txt K mg fa fd) : FnOk P w K mg base CX0 3 (fa 37) (fd 37) ["form", "n"] (spLawSearch K) := by
  refine T.F__law_search.ok scLawSearch (fun vs H Q E h => ?_) (fun cdv A outer s H vs Q E hr h => ?_)
  · obtain ⟨af, a, b, c, k, n, rfl, hs, F, n1, n2, n3, n4, n0, nb, kk⟩ := h
    rfl
  · obtain ⟨af, a, b, c, k, n, rfl, hs, F, n1, n2, n3, n4, n0, nb, kk⟩ := h
    refine ⟨_, (pss_cons (ps_asg (pe_call (sp := spLawLines K) (okLawLines T) hr (by rfl) T.G__law_lines T.F__law_lines.kp T.B__law_lines .nil pass0 (pa_cons (pv 0) pa_nil)) (pgU K 3 (by rfl) (pgs_cons (pg_name (i := 2) scLawSearch.nd rfl (Or.inl rfl)) (pgs_cons (pg_name (i := 3) scLawSearch.nd rfl (Or.inl rfl)) (pgs_cons (pg_name (i := 4) scLawSearch.nd rfl (Or.inl rfl)) pgs_nil)))))
      (pss_cons (ps_set (i := 5) scLawSearch.nd rfl (Or.inl rfl) (pe_lst pa_nil))
      (pss_cons (ps_set (i := 6) scLawSearch.nd rfl (Or.inl rfl) (pe_op op_sub (pe_op op_mulW (pe_ix (ixT K) (pv 3) pe_int (fun _ _ => rfl)) (pe_ix (ixT K) (pv 4) pe_int (fun _ _ => rfl))) (pe_op op_mulW (pe_ix (ixT K) (pv 3) pe_int (fun _ _ => rfl)) (pe_ix (ixT K) (pv 4) pe_int (fun _ _ => rfl)))))
      (pss_cons (ps_for PassesOwn.never rfl (pi_range2 (by rfl) T.m_range (pa_cons pe_int (pa_cons (pe_op op_add (pe_call (sp := spLawRoot K) (okLawRoot T) (hr.mono (by decide)) (by rfl) T.G__law_root T.F__law_root.kp T.B__law_root .nil pass0 (pa_cons (pe_callB (absQ K) (by rfl) T.m_abs (by decide +kernel) (pa_cons (pe_op op_mulW (pv 2) (pv 1)) pa_nil)) pa_nil)) pe_int) pa_nil))) (pg_name (i := 7) scLawSearch.nd rfl (Or.inl rfl))
      (pss_one (ps_if (pt_cmp (pc_eqI (pe_op op_mod (pe_op op_mulW (pv 2) (pv 1)) (pv 7)) pe_int))
        (pss_one (ps_for PassesOwn.never rfl (piL K (pe_lst (pa_cons (pv 7) (pa_cons (pe_un un_neg (pv 7)) (pa_cons (pe_op op_fdivX (pe_op op_mulW (pv 2) (pv 1)) (pv 7)) (pa_cons (pe_un un_neg (pe_op op_fdivX (pe_op op_mulW (pv 2) (pv 1)) (pv 7))) pa_nil)))))) (pg_name (i := 8) scLawSearch.nd rfl (Or.inl rfl))
          (pss_cons (ps_set (i := 9) scLawSearch.nd rfl (Or.inl rfl) (pe_op op_fdivX (pe_op op_mulW (pv 2) (pv 1)) (pv 8)))
            (pss_cons (ps_set (i := 10) scLawSearch.nd rfl (Or.inl rfl) (pe_op op_sub (pe_op op_mulW (pv 8) (pe_ix (ixT K) (pv 4) pe_int (fun _ _ => rfl))) (pe_op op_mulW (pv 9) (pe_ix (ixT K) (pv 3) pe_int (fun _ _ => rfl)))))
            (pss_cons (ps_set (i := 11) scLawSearch.nd rfl (Or.inl rfl) (pe_op op_sub (pe_op op_mulW (pe_ix (ixT K) (pv 3) pe_int (fun _ _ => rfl)) (pv 9)) (pe_op op_mulW (pe_ix (ixT K) (pv 4) pe_int (fun _ _ => rfl)) (pv 8))))
            (pss_one (ps_if (PW.pt (pw_and (pt_cmp (pc_eqI (pe_op op_modN (pv 10) (pv 6)) pe_int)) (pw_and (pt_cmp (pc_eqI (pe_op op_modN (pv 11) (pv 6)) pe_int)) (pw_and1 (pt_cmpR (notInDQ K (room65 hr)) (pe_tup (pa_cons (pe_op op_fdivX (pv 10) (pv 6)) (pa_cons (pe_op op_fdivX (pv 11) (pv 6)) pa_nil))) (pv 5) (by with_unfolding_all rfl))))))
            (pss_one (ps_expr (pe_bm PySem.F.plainAttrs_list PySem.F.slot_list_append PySem.F.type_list_append mt_append (pv 5) (pa_cons (pe_tup (pa_cons (pe_op op_fdivX (pv 10) (pv 6)) (pa_cons (pe_op op_fdivX (pv 11) (pv 6)) pa_nil))) pa_nil))))
            pss_nil)))))))
        pss_nil)))
      (pss_one (ps_ret (pe_callB (srtPQ K) (by rfl) T.m_sorted (by decide +kernel) (pa_cons (pv 5) pa_nil)))))))), ?_⟩
    have bn : Bd 10 n := Bd.of nb (by decide)
    clean_wf
    refine ⟨af, a, b, c, k, rfl, hs, F, n1, n2, n3, n4, ?_⟩
    intro H1 L1 t1 t2 T f0 f1 s0 s1 sm1 hL1 st1 st2 LO
    obtain ⟨c1, c2, c3, c4⟩ : Bd 30 f0 ∧ Bd 30 f1 ∧ Bd 30 s0 ∧ Bd 30 s1 := ⟨LO.b1, LO.b2, LO.b3, LO.b4⟩
    have bT : Bd 20 T := Bd.of LO.bt (by decide)
    have tn0 : T * n ≠ 0 := fun h => (Int.mul_eq_zero.mp h).elim LO.t0 n0
    have tnb : (T * n).natAbs ≤ 400000 * 400 := by rw [Int.natAbs_mul]; exact Nat.mul_le_mul LO.bt nb
    refine r_gunl (SqL.of hL1) rfl ?_
    clean_wf
    have sD := sm1.trans sn
    have nD : H tn = none := Same.free sm1 nn
    have st1' := same_seqT sn st1
    have st2' := same_seqT sn st2
    have hD0 := ht
    generalize tn = D at *
    have R0 := (rootI_spec (show 0 ≤ ((T * n).natAbs : Int) by omega))
    have Rle : rootI ((T * n).natAbs : Int) ≤ 100000 := by
      by_cases z : rootI ((T * n).natAbs : Int) ≤ 100000
      · exact z
      · have := Int.mul_le_mul (show 100001 ≤ rootI ((T * n).natAbs : Int) by omega) (show 100001 ≤ rootI ((T * n).natAbs : Int) by omega) (by decide) (by omega)
        omega
    refine ⟨_, rfl, by omega, by show _ < (1152921504606846976 : Int); omega, ?_⟩
    generalize rootI ((T * n).natAbs : Int) = Rt at *
    clean_wf
    have Rn : (Rt + 1 - 1).toNat = Rt.toNat := by rw [show Rt + 1 - 1 = Rt by omega]
    rw [Rn]
    have w0 := LO.w0
    have bw : Bd 70 (f0 * s1 - f1 * s0) := by apply bdm; clean_wf
    have btn : Bd 30 (T * n) := Bd.of tnb (by decide)
    refine R.forN (lo := 1) (n := Rt.toNat) (fun i σ H' => ∃ (x7 x8 x9 x10 x11 : Option V) (vs : List V) (ps : List (Int × Int)), σ = [some (.ref af), some (.int n), some (.int T), some (.ref t1), some (.ref t2), some (.ref D), some (.int (f0 * s1 - f1 * s0)), x7, x8, x9, x10, x11] ∧ Kp D HN H' ∧ Same H H' ∧ H' D = some (.lst vs) ∧ Pd H' vs ps ∧ Fd a b c n ps ∧ Cmp a b c n f0 f1 s0 s1 i ps ∧ ps.length ≤ 4 * i)
      ⟨_, _, _, _, _, [], [], rfl, Kp.refl, sD, hD0, .nil, ⟨.nil, fun v h => by cases h⟩, cmp_zero LO tn0, Nat.zero_le _⟩ (fun i σ H' hi hPv => ?_) (fun σ H' hPv => ?_)
    · obtain ⟨x7, x8, x9, x10, x11, vs, ps, rfl, kp, sm, hD, pd, fd, cm, hl⟩ := hPv
      have hiR : i < 100000 := by omega
      have bi : Bd 30 (1 + (i : Int)) := Bd.of (m := 200000) (by omega) (by decide)
      clean_wf
      refine way2 (fun z => ?_) (fun z => ?_)
      · have bq : Bd 30 ((T * n).fdiv (1 + (i : Int))) := btn.fdiv
        clean_wf
        have hL := ht
        have kp2 := kp.trans (same_kp sn)
        have sm2 := sm.trans sn
        have hD2 := sn _ _ hD
        have pd2 := pd.same sn
        have nLD : tn ≠ D := (ne_of_none hD nn).symm
        generalize tn = Lq at *
        obtain ⟨js, hjs⟩ : ∃ js : List Int, js = [1 + (i : Int), -(1 + (i : Int)), (T * n).fdiv (1 + (i : Int)), -((T * n).fdiv (1 + (i : Int)))] := ⟨_, rfl⟩
        have hL2 : HN Lq = some (.lst (js.map V.int)) := by
          rw [hjs]
          exact hL
        have st1N := kp_seqTL kp2 hD0 st1'
        have st2N := kp_seqTL kp2 hD0 st2'
        clear hL
        refine R.refs (S := SqL K _) (xs := js.map V.int) (SqL.of hL2) ?_
        refine for_list (K := K) (a := Lq) (xs := js.map V.int) (fun j σ H3 => ∃ (x8 x9 x10 x11 : Option V) (vs2 : List V) (qs : List (Int × Int)), σ = [some (.ref af), some (.int n), some (.int T), some (.ref t1), some (.ref t2), some (.ref D), some (.int (f0 * s1 - f1 * s0)), some (.int (1 + (i : Int))), x8, x9, x10, x11] ∧ Kp D HN H3 ∧ Same H H3 ∧ H3 D = some (.lst vs2) ∧ Pd H3 vs2 qs ∧ Fd a b c n qs ∧ (∀ v ∈ ps, v ∈ qs) ∧ Dn a b c n f0 f1 (js.take j) qs ∧ qs.length ≤ 4 * i + j)
          ⟨_, _, _, _, vs, ps, rfl, Kp.refl, sm2, hD2, pd2, fd, fun v h => h, (fun v _ h => by cases h), hl⟩ (fun j σ H3 hj hPv => ?_) (fun j x σ H3 hx hPv => ?_) (fun σ H3 hPv => ?_)
        · obtain ⟨x8, x9, x10, x11, vs2, qs, rfl, kp3, _⟩ := hPv
          exact SqL.of (kp3 _ _ nLD hL2)
        · obtain ⟨x8, x9, x10, x11, vs2, qs, rfl, kp3, sm3, hD3, pd3, fd3, sub, dn, hl3⟩ := hPv
          rw [List.getElem?_map] at hx
          cases hn : js[j]? with
          | none =>
            rw [hn] at hx
            cases hx
          | some one =>
            rw [hn] at hx
            cases hx
            have hmem := List.mem_of_getElem? hn
            rw [hjs] at hmem
            have jl : j < 4 := by
              have := (List.getElem?_eq_some_iff.mp hn).1
              rw [hjs] at this
              exact this
            obtain ⟨o0, oe, ob⟩ := one_ok tn0 (show (1 + (i : Int)) ≠ 0 by omega) z hmem
            have bone : Bd 30 one := Nat.lt_of_le_of_lt ob btn
            have bot : Bd 30 ((T * n).fdiv one) := btn.fdiv
            have tk : js.take (j + 1) = js.take j ++ [one] := by
              rw [List.take_add_one, hn]
              rfl
            have st13 := kp_seqTL kp3 hD2 st1N
            have st23 := kp_seqTL kp3 hD2 st2N
            have vl : vs2.length ≤ 1000000 := by rw [pd3.len]; omega
            have bx : Bd 70 (one * s1 - (T * n).fdiv one * f1) := by apply bdm; clean_wf
            have by' : Bd 70 (f0 * (T * n).fdiv one - s0 * one) := by apply bdm; clean_wf
            have co := fun v hv ho => cand_of (v := v) LO o0 oe hv ho
            have ci := cand_in LO oe
            rw [tk]
            clean_wf
            generalize (T * n).fdiv one = other at *
            generalize hX : one * s1 - other * f1 = X at *
            generalize hY : f0 * other - s0 * one = Y at *
            generalize hW : f0 * s1 - f1 * s0 = W at *
            refine way2 (fun zx => ?_) (fun zx => ?_)
            · skip
              clean_wf
              refine way2 (fun zy => ?_) (fun zy => ?_)
              · have bXW : Bd 70 (X.fdiv W) := bx.fdiv
                have bYW : Bd 70 (Y.fdiv W) := by'.fdiv
                clean_wf
                have hD4 := sn _ _ hD3
                have pd4 := pd3.same sn
                refine R.notInT (t := [X.fdiv W, Y.fdiv W]) (ts := qs.map pL) (show SqT K _ _ [V.int (X.fdiv W), V.int (Y.fdiv W)] by simp_wf) (SqL.of hD4) pd4.tps ?_
                clean_wf
                refine wayN2 (fun hm => ?_) (fun hm => ?_)
                · have hnot : (X.fdiv W, Y.fdiv W) ∉ qs := fun k => hm (mem_pL (p := (X.fdiv W, Y.fdiv W)).mpr k)
                  obtain ⟨hv, ho⟩ := ci zx zy
                  have s34 := sn
                  clean_wf
                  have sall := s34.trans sn
                  have hD5 := sall _ _ hD3
                  refine R.app hD5 vl (fun H5 e5 h5 => ?_)
                  refine ⟨_, _, _, _, vs2 ++ [.ref tn], qs ++ [(X.fdiv W, Y.fdiv W)], rfl, ?_, ?_, h5, ?_, ⟨?_, ?_⟩, fun v hv => List.mem_append_left _ (sub v hv), ?_, ?_⟩
                  · rw [e5]
                    exact (kp3.trans (same_kp sall)).trans (frm_kp fun b hb => upd_ne hb)
                  · rw [e5]
                    exact same_mut (sm3.trans sall) nD
                  · rw [e5]
                    refine ((pd3.same sall).off hD5).snoc ?_
                    rw [upd_ne (ne_of ht hD5 (by intro z; cases z))]
                    exact ht
                  · exact nodup_snoc fd3.nd hnot
                  · intro v hv2
                    rcases List.mem_append.mp hv2 with k | k
                    · exact fd3.ok v k
                    · rw [List.mem_singleton.mp k]
                      exact hv
                  · refine dn_snoc dn (fun v h => List.mem_append_left _ h) (fun v hv2 ho2 => List.mem_append_right _ (List.mem_singleton.mpr ?_))
                    obtain ⟨k1, k2⟩ := co v hv2 ho2
                    exact cand_eq w0 k1 k2
                  · rw [List.length_append]
                    show qs.length + 1 ≤ 4 * i + (j + 1)
                    omega
                · have hin : (X.fdiv W, Y.fdiv W) ∈ qs := mem_pL (p := (X.fdiv W, Y.fdiv W)).mp hm
                  clean_wf
                  refine ⟨_, _, _, _, vs2, qs, rfl, kp3.trans (same_kp sn), sm3.trans sn, hD4, pd4, fd3, sub, ?_, by omega⟩
                  refine dn_snoc dn (fun v h => h) (fun v hv2 ho2 => ?_)
                  obtain ⟨k1, k2⟩ := co v hv2 ho2
                  rw [cand_eq w0 k1 k2]
                  exact hin
              · skip
                clean_wf
                refine ⟨_, _, _, _, vs2, qs, rfl, kp3, sm3, hD3, pd3, fd3, sub, ?_, by omega⟩
                refine dn_snoc dn (fun v h => h) (fun v hv2 ho2 => ?_)
                obtain ⟨k1, k2⟩ := co v hv2 ho2
                exact absurd (Int.fmod_eq_zero_of_dvd ⟨v.2, k2⟩) zy
            · skip
              clean_wf
              refine ⟨_, _, _, _, vs2, qs, rfl, kp3, sm3, hD3, pd3, fd3, sub, ?_, by omega⟩
              refine dn_snoc dn (fun v h => h) (fun v hv2 ho2 => ?_)
              obtain ⟨k1, k2⟩ := co v hv2 ho2
              exact absurd (Int.fmod_eq_zero_of_dvd ⟨v.1, k1⟩) zx
        · obtain ⟨x8, x9, x10, x11, vs2, qs, rfl, kp3, sm3, hD3, pd3, fd3, sub, dn, hl3⟩ := hPv
          have ej : js.length = 4 := by rw [hjs]; rfl
          rw [List.length_map, List.take_length, hjs] at dn
          rw [List.length_map, ej] at hl3
          clean_wf
          exact ⟨_, _, _, _, _, vs2, qs, rfl, kp2.trans kp3, sm3, hD3, pd3, fd3, cmp_done LO z cm sub dn, by omega⟩
      · skip
        clean_wf
        exact ⟨_, _, _, _, _, vs, ps, rfl, kp, sm, hD, pd, fd, cmp_skip LO z cm, by omega⟩
    · obtain ⟨x7, x8, x9, x10, x11, vs, ps, rfl, kp, sm, hD, pd, fd, cm, hl⟩ := hPv
      clean_wf
      refine R.srtP (SqL.of hD) pd fd.nd (fun ws qs H6 L pw pm pl s6 nL hL => ?_)
      refine kk H6 L ws qs (sm.trans s6) (Same.free sm nL) hL pw pl (fun v => (pm.mem_iff).trans ⟨fd.ok v, cmp_all LO cm ?_ v⟩)
      rw [Int.toNat_of_nonneg R0.1]
      exact R0.2.2
theorem sgnAt {r : Int} (h0 : 0 ≤ r) (h1 : r < 2) : ∃ v : Int, (v = 1 ∨ v = -1) ∧ atI [V.int 1, V.int (-1)] r = some (.int v) := by
  obtain rfl | rfl : r = 0 ∨ r = 1 := by omega
  · exact ⟨1, .inl rfl, rfl⟩
  · exact ⟨-1, .inr rfl, rfl⟩
def spLaw (K : PySem.W.Frag) : Sp := fun vs H Q _ => ∃ (a : Addr) (ns : List Int), vs = [.ref a] ∧ SqL K H a (ns.map V.int) ∧ ns.length ≤ 63 ∧ ∀ H', Q (.bl true) H'
theorem okLaw (T : Txt K mg fa fd) : FnOk P w K mg base CX0 8 (fa 38) (fd 38) ["script"] (spLaw K) := by
  refine T.F_law.ok scLaw (fun vs H Q E h => ?_) (fun cdv A outer s H vs Q E hr h => ?_)
  · obtain ⟨l, ns, rfl, hS, hlen, qq⟩ := h
    rfl
  · obtain ⟨l, ns, rfl, hS, hlen, qq⟩ := h
    refine ⟨_, (pss_cons (ps_set (i := 1) scLaw.nd rfl (Or.inl rfl) (pe_call (sp := spLawState K) (okLawState T) (hr.mono (by decide)) (by rfl) T.G__law_state T.F__law_state.kp T.B__law_state .nil pass0 (pa_cons (pv 0) pa_nil)))
      (pss_cons (ps_set (i := 2) scLaw.nd rfl (Or.inl rfl) (pe_call (sp := spLawAct K) (okLawAct T) (hr.mono (by decide)) (by rfl) T.G__law_act T.F__law_act.kp T.B__law_act .nil pass0 (pa_cons (pe_call (sp := spLawSplit K) (okLawSplit T) (hr.mono (by decide)) (by rfl) T.G__law_split T.F__law_split.kp T.B__law_split .nil pass0 (pa_cons (pv 1) pa_nil)) (pa_cons (pe_call (sp := spLawChange K) (okLawChange T) (hr.mono (by decide)) (by rfl) T.G__law_change T.F__law_change.kp T.B__law_change .nil pass0 (pa_cons (pv 1) (pa_cons pe_int pa_nil))) pa_nil))))
      (pss_cons (ps_set (i := 3) scLaw.nd rfl (Or.inr rfl) (pe_call (sp := spLawWorth K) (okLawWorth T) (hr.mono (by decide)) (by rfl) T.G__law_worth T.F__law_worth.kp T.B__law_worth .nil pass0 (pa_cons (pv 2) (pa_cons (pe_op op_sub (pe_call (sp := spLawNext K) (okLawNext T) (hr.mono (by decide)) (by rfl) T.G__law_next T.F__law_next.kp T.B__law_next .nil pass0 (pa_cons (pv 1) (pa_cons pe_int pa_nil))) pe_int) (pa_cons (pe_op op_sub (pe_call (sp := spLawNext K) (okLawNext T) (hr.mono (by decide)) (by rfl) T.G__law_next T.F__law_next.kp T.B__law_next .nil pass0 (pa_cons (pv 1) (pa_cons pe_int pa_nil))) pe_int) pa_nil)))))
      (C8.pss_cut (ps_if (PW.pt (pw_or (pt_cmp (pc_eqI (pe_call (sp := spLawNext K) (okLawNext T) (hr.mono (by decide)) (by rfl) T.G__law_next T.F__law_next.kp T.B__law_next .nil pass0 (pa_cons (pv 1) (pa_cons pe_int pa_nil))) pe_int)) (pw_or (pt_cmp (pc_eqI (pv 3) pe_int)) (pw_or1 (pt_cmp (pc_gt (pe_callB (absQ K) (by rfl) T.m_abs (by decide +kernel) (pa_cons (pv 3) pa_nil)) pe_int))))))
      (pss_one (ps_set (i := 3) scLaw.nd rfl (Or.inr rfl) (pe_op op_mulW (pe_op op_add pe_int (pe_call (sp := spLawNext K) (okLawNext T) (hr.mono (by decide)) (by rfl) T.G__law_next T.F__law_next.kp T.B__law_next .nil pass0 (pa_cons (pv 1) (pa_cons pe_int pa_nil)))) (pe_ix (ixL K) (pe_lst (pa_cons pe_int (pa_cons (pe_un un_neg pe_int) pa_nil))) (pe_call (sp := spLawNext K) (okLawNext T) (hr.mono (by decide)) (by rfl) T.G__law_next T.F__law_next.kp T.B__law_next .nil pass0 (pa_cons (pv 1) (pa_cons pe_int pa_nil))) (fun _ _ => rfl)))))
      pss_nil)
      (pss_cons (ps_set (i := 4) scLaw.nd rfl (Or.inl rfl) (pe_call (sp := spLawSearch K) (okLawSearch T) (hr.mono (by decide)) (by rfl) T.G__law_search T.F__law_search.kp T.B__law_search .nil pass0 (pa_cons (pv 2) (pa_cons (pv 3) pa_nil))))
      (pss_cons (ps_expr (pe_bm PySem.F.plainAttrs_list PySem.F.slot_list_append PySem.F.type_list_append mt_append (pe_call (sp := spSplitPoints K) (okSplitPoints T) (hr.mono (by decide)) (by rfl) T.G_split_points T.F_split_points.kp T.B_split_points .nil pass0 (pa_cons (pv 2) (pa_cons (pv 3) pa_nil))) (pa_cons (pe_tup (pa_cons pe_int (pa_cons pe_int pa_nil))) pa_nil)))
      (pss_cons (ps_expr (pe_bm PySem.F.plainAttrs_list PySem.F.slot_list_append PySem.F.type_list_append mt_append (pe_call (sp := spMeasures K) (okMeasures T) (hr.mono (by decide)) (by rfl) T.G_measures T.F_measures.kp T.B_measures .nil pass0 (pa_cons (pv 3) pa_nil)) (pa_cons pe_int pa_nil)))
      (pss_cons (ps_if (PW.pt (pw_or (pt_cmpR (neDQ K hr.units) (pe_call (sp := spSplitPoints K) (okSplitPoints T) (hr.mono (by decide)) (by rfl) T.G_split_points T.F_split_points.kp T.B_split_points .nil pass0 (pa_cons (pv 2) (pa_cons (pv 3) pa_nil))) (pv 4) (nomark _)) (pw_or (pt_cmpR (notInQ K) (pe_call (sp := spIsRepresented K) (okIsRepresented T) hr (by rfl) T.G_is_represented T.F_is_represented.kp T.B_is_represented .nil pass0 (pa_cons (pv 2) (pa_cons (pv 3) pa_nil))) (pe_lst (pa_cons (pe_cmpR (neDQ K hr.units) (pv 4) (pe_lst pa_nil) (nomark _)) pa_nil)) (by with_unfolding_all rfl)) (pw_or1 (pt_not (pt_val (pe_callB (isiQ K) (by rfl) T.m_isinstance (by decide +kernel) (pa_cons (pe_call (sp := spIsRepresented K) (okIsRepresented T) hr (by rfl) T.G_is_represented T.F_is_represented.kp T.B_is_represented .nil pass0 (pa_cons (pv 2) (pa_cons (pv 3) pa_nil))) (pa_cons (pe_bltn (v := .ty "bool") (by rfl) T.m_bool (by decide +kernel) rfl) pa_nil)))))))))
      (pss_one (ps_ret pe_bl))
      pss_nil)
      (pss_one (ps_ret (pe_cmpR (eqDQ K hr.units) (pe_callB (srtQ K) (by rfl) T.m_sorted (by decide +kernel) (pa_cons (pe_call (sp := spMeasures K) (okMeasures T) (hr.mono (by decide)) (by rfl) T.G_measures T.F_measures.kp T.B_measures .nil pass0 (pa_cons (pv 3) pa_nil)) pa_nil)) (pe_lc (own := [("one", 5)]) (g := gName 5)  rfl scLaw.nd (pi_range2 (by rfl) T.m_range (pa_cons (pe_un un_neg (pe_callB (absQ K) (by rfl) T.m_abs (by decide +kernel) (pa_cons (pv 3) pa_nil))) (pa_cons (pe_op op_add (pe_callB (absQ K) (by rfl) T.m_abs (by decide +kernel) (pa_cons (pv 3) pa_nil)) pe_int) pa_nil))) (blkOk_by (own := [("one", 5)]) (N := ["script", "state", "form", "n", "due", "one"]) (sc := defScope sLaw) (by decide +kernel)) (fun _ _ _ _ _ => (pg_name (i := 5) scLaw.nd rfl (Or.inl rfl))) (fun _ _ _ _ _ => (pts_one (PW.pt (pw_and (pt_cmp (pc_neI (pv 5) pe_int)) (pw_and1 (pt_cmp (pc_eqI (pe_op op_modN (pv 3) (pv 5)) pe_int))))))) (fun _ _ _ _ _ => (pv 5))) (nomark _)))))))))))), ?_⟩
    clean_wf
    refine ⟨l, ns, rfl, hS, fun H1 p0 q0 s1 d1 => ?_⟩
    clean_wf
    intro H2 tf a b c k d2 k2 sF hF f1 f2 f3 f4
    have fa1 : Bd 10 a := Bd.of f1 (by decide)
    have fb1 : Bd 10 b := Bd.of f2 (by decide)
    have fc1 : Bd 10 c := Bd.of f3 (by decide)
    clean_wf
    intro H3 tm m1 m2 m3 m4 d3 k3 s3 l3
    have l3 := l3.mono (show Int.toNat 1 ≤ 1 by decide)
    obtain ⟨g1, g2, g3, g4⟩ := l3.bd (by decide)
    clean_wf
    have sz := act_size (a := a) (b := b) (c := c) (C := 100) (M := 3) (by omega) (by omega) (by omega) l3.2.1 l3.2.2.1 l3.2.2.2.1 l3.2.2.2.2
    have F1 : SF k (fA a b c m1 m3) (fB a b c m1 m2 m3 m4) (fA a b c m2 m4) := ⟨by rw [dsc_act, l3.1, hF.d]; omega, hF.k0⟩
    have sF1 : SqT K HN tn [.int (fA a b c m1 m3), .int (fB a b c m1 m2 m3 m4), .int (fA a b c m2 m4)] := SqT.of ht
    have dN := d3.same sn
    clear ht sF s3 hF l3 fa1 fb1 fc1 g1 g2 g3 g4
    generalize fA a b c m1 m3 = A at *
    generalize fB a b c m1 m2 m3 m4 = B at *
    generalize fA a b c m2 m4 = C at *
    generalize tn = tF at *
    have bA : Bd 30 A := Bd.of sz.1 (by decide)
    have bB : Bd 30 B := Bd.of sz.2.1 (by decide)
    have bC : Bd 30 C := Bd.of sz.2.2 (by decide)
    have z1 : A.natAbs ≤ 100000 := by omega
    have z2 : B.natAbs ≤ 100000 := by omega
    have z3 : C.natAbs ≤ 100000 := by omega
    intro x1 H4 x1a x1b d4 k4
    clean_wf
    intro x2 H5 x2a x2b d5 k5
    have bx1 : Bd 4 (x1 - 6) := Bd.of (m := 6) (by omega) (by decide)
    have bx2 : Bd 4 (x2 - 6) := Bd.of (m := 6) (by omega) (by decide)
    clean_wf
    have sF5 : SqT K H5 tF [.int A, .int B, .int C] := by simp_wf
    generalize A * (x1 - 6) * (x1 - 6) + B * (x1 - 6) * (x2 - 6) + C * (x2 - 6) * (x2 - 6) = n0 at *
    refine R.cut (Mid := fun σ H' => ∃ n : Int, σ = [some (.ref l), some (.ref p0), some (.ref tF), some (.int n), none, none] ∧ n ≠ 0 ∧ n.natAbs ≤ 400 ∧ Kp p0 H5 H') ?_ (fun σ H6 hM => ?_)
    · skip
      clean_wf
      intro x3 H6 x3a x3b d6 k6
      clean_wf
      refine way2 (fun z => ?_) (fun z => ?_)
      · skip
        clean_wf
        intro r4 H7 r4a r4b d7 k7
        clean_wf
        intro r5 H8 r5a r5b d8 k8
        obtain ⟨v, hv, ev⟩ := sgnAt r5a r5b
        refine R.ixL (xs := [V.int 1, V.int (-1)]) (by array_get_dec) ev ?_
        clean_wf
        refine ⟨_, rfl, ?_, ?_, ?_⟩
        · rcases hv with rfl | rfl <;> omega
        · rcases hv with rfl | rfl <;> omega
        · sizeOf_list_dec
      clean_wf
      refine way2 (fun z2 => ?_) (fun z2 => ?_)
      · skip
        clean_wf
        intro r4 H7 r4a r4b d7 k7
        clean_wf
        intro r5 H8 r5a r5b d8 k8
        obtain ⟨v, hv, ev⟩ := sgnAt r5a r5b
        refine R.ixL (xs := [V.int 1, V.int (-1)]) (by array_get_dec) ev ?_
        clean_wf
        refine ⟨_, rfl, ?_, ?_, ?_⟩
        · rcases hv with rfl | rfl <;> omega
        · rcases hv with rfl | rfl <;> omega
        · sizeOf_list_dec
      clean_wf
      refine way2 (fun z3 => ?_) (fun z3 => ?_)
      · skip
        clean_wf
        intro r4 H7 r4a r4b d7 k7
        clean_wf
        intro r5 H8 r5a r5b d8 k8
        obtain ⟨v, hv, ev⟩ := sgnAt r5a r5b
        refine R.ixL (xs := [V.int 1, V.int (-1)]) (by array_get_dec) ev ?_
        clean_wf
        refine ⟨_, rfl, ?_, ?_, ?_⟩
        · rcases hv with rfl | rfl <;> omega
        · rcases hv with rfl | rfl <;> omega
        · sizeOf_list_dec
      clean_wf
      exact ⟨n0, rfl, z2, by omega, k6⟩
    obtain ⟨n, rfl, hn0, hn4, k6⟩ := hM
    obtain ⟨ll, mok⟩ := ms_ok (N := n.natAbs) (by omega) hn4
    have n59 : n.natAbs < 2 ^ 59 := Nat.lt_of_le_of_lt hn4 (by decide)
    have bn : Bd 10 n := Bd.of hn4 (by decide)
    have sF6 := kp_seqT k6 d5 sF5
    have y1 : A.natAbs ≤ 1099511627776 := by omega
    have y2 : B.natAbs ≤ 1099511627776 := by omega
    have y3 : C.natAbs ≤ 1099511627776 := by omega
    have y4 : k ≤ 4398046511104 := by omega
    clear k6 sF5 d5 d4 d3 d2 dN k5 k4 k3 k2 sF1 s1 d1 sz
    clean_wf
    refine ⟨tF, A, B, C, k, n, rfl, sF6, F1, z1, z2, z3, by omega, hn0, hn4, ?_⟩
    intro H7 Ld wd qd s7 nLd hLd pd7 pwd memd
    have sF7 := same_seqT s7 sF6
    clean_wf
    refine ⟨tF, A, B, C, k, n, ll, rfl, sF7, F1, y1, y2, y3, y4, hn0, n59, mok, ?_⟩
    intro H8 L8 w8 q8 s8 nL8 hL8 pd8 _ _ ln8
    clean_wf
    refine R.app (sn _ _ hL8) (by rw [pd8.len]; omega) (fun H9 e9 h9 => ?_)
    have s9 : Same H7 H9 := e9 ▸ same_mut (s8.trans sn) nL8
    clear e9 h9 hL8 pd8 ln8 nL8 s8
    clean_wf
    refine ⟨n, ll, rfl, hn0, n59, mok, fun H10 M s10 nM hM => ?_⟩
    clean_wf
    refine R.app hM (by rw [List.length_map]; have := mok.len; unfold msL; rw [List.length_append, List.length_map]; omega) (fun H11 e11 h11 => ?_)
    have s11 : Same H7 H11 := s9.trans (e11 ▸ same_mut s10 nM)
    have sF11 := same_seqT s11 sF7
    have hL11 := s11 _ _ hLd
    have pd11 := pd7.same s11
    clear e11 h11 hM nM s10 s9 s11 hLd pd7 sF7 s7 nLd
    clean_wf
    refine ⟨tF, A, B, C, k, n, ll, rfl, sF11, F1, y1, y2, y3, y4, hn0, n59, mok, ?_⟩
    intro H12 L12 w12 q12 s12 nL12 hL12 pd12 pw12 mem12 _
    have eq12 : q12 = qd := ltp_ext pw12 pwd (fun x => (mem12 x).trans (memd x).symm)
    have sF12 := same_seqT s12 sF11
    have hL12' := s12 _ _ hL11
    have pd12' := pd11.same s12
    clean_wf
    refine R.neTps (ts := q12.map pL) (us := qd.map pL) (SqL.of hL12) pd12.tps (SqL.of hL12') pd12'.tps ?_
    clean_wf
    refine wayNF (by rw [eq12]) ?_
    clean_wf
    refine ⟨tF, A, B, C, k, n, ll, rfl, sF12, F1, y1, y2, y3, y4, hn0, n59, mok, ?_⟩
    intro H13 q13 s13 pw13 mem13
    have eq13 : q13 = qd := ltp_ext pw13 pwd (fun x => (mem13 x).trans (memd x).symm)
    rw [eq13]
    have sF13 := same_seqT s13 sF12
    have hL13 := s13 _ _ hL12'
    have pd13 := pd12'.same s13
    clean_wf
    refine R.neTps (ts := qd.map pL) (us := []) (SqL.of (sn _ _ hL13)) (pd13.same sn).tps (SqL.of ht) .nil ?_
    clean_wf
    refine ⟨tn, [V.bl (!decide (qd.map pL = []))], rfl, .inl (SqL.of ht), rfl, rfl, ?_⟩
    have hin : ∀ bb : Bool, inV (V.bl bb) [V.bl bb] = true := by
      intro bb
      cases bb <;> rfl
    rw [hin]
    refine ⟨false, rfl, ?_⟩
    have sF14 := same_seqT (by array_mem_dec : Same H13 HN) sF13
    clean_wf
    refine ⟨tF, A, B, C, k, n, ll, rfl, sF14, F1, y1, y2, y3, y4, hn0, n59, mok, ?_⟩
    intro H15 q15 s15 pw15 mem15
    clean_wf
    refine ⟨n, ll, rfl, hn0, n59, mok, fun H16 M s16 nM hM => ?_⟩
    clean_wf
    refine R.srt (SqL.of hM) (fun ns' H17 p pm ps s17 n17 h17 => ?_)
    clean_wf
    refine R.lcFR (lo := -(n.natAbs : Int)) (n := Int.toNat ((n.natAbs : Int) + 1 - -(n.natAbs : Int))) (fun x => decide (x ≠ 0 ∧ n.fmod x = 0)) (fun x => x) (by omega) (fun j H18 C' E' hj s18 c1 c2 => ?_) (fun H18 D hD s18 nD => ?_)
    · have bj : Bd 10 (-(n.natAbs : Int) + (j : Int)) := Bd.of (m := 800) (by omega) (by decide)
      generalize -(n.natAbs : Int) + (j : Int) = x at *
      clean_wf
      refine ⟨rfl, ?_⟩
      clean_wf
      refine wayN2 (fun h => ?_) (fun h => ?_)
      · skip
        clean_wf
        refine way2 (fun h2 => ?_) (fun h2 => ?_)
        · skip
          clean_wf
          exact c1 (decide_eq_true ⟨h, h2⟩)
        · exact c2 (decide_eq_false fun k => h2 k.2)
      · skip
        clean_wf
        exact c2 (decide_eq_false fun k => k.1 h)
    · have nd := (mok.ms hn0).1
      have mm := (mok.ms hn0).2
      have e : ns' = ((rgI (-(n.natAbs : Int)) (Int.toNat ((n.natAbs : Int) + 1 - -(n.natAbs : Int)))).filter fun x => decide (x ≠ 0 ∧ n.fmod x = 0)).map (fun x => x) := by
        rw [List.map_id']
        refine lt_ext (le_nodup_lt ps (pm.nodup_iff.mpr nd)) ((rgI_lt _ _).filter _) fun x => ?_
        rw [pm.mem_iff, mm, List.mem_filter, mem_rgI, decide_eq_true_iff]
        constructor
        · intro hd
          have x0 : x ≠ 0 := by
            rintro rfl
            exact hn0 (Int.zero_dvd.mp hd)
          have hle := Nat.le_of_dvd (by omega) (Int.natAbs_dvd_natAbs.mpr hd)
          exact ⟨⟨by omega, by omega⟩, x0, Int.fmod_eq_zero_of_dvd hd⟩
        · rintro ⟨_, _, h⟩
          exact Int.dvd_of_fmod_eq_zero h
      refine R.eqInts (SqL.of (s18 _ _ h17)) (SqL.of hD) ?_
      rw [decide_eq_true e]
      exact qq _
end
theorem all_mk {l : PySem.W.OpenLaw} {w : World} {K : PySem.W.Frag} {h : Heap} {mg : Str → Option Value} {f : Addr} (X : K.In h) (G : h.Ns mainGlobals mg) (hfa : mg "law" = some (.ref f))
    {f0 f1 f2 f3 f4 f5 f6 f7 f8 f9 f10 f11 f12 f13 f14 f15 f16 f17 f18 f19 f20 f21 f22 f23 f24 f25 f26 f27 f28 f29 f30 f31 f32 f33 f34 f35 f36 f37 f38 : Addr}
    {od0 an0 od1 an1 od2 an2 od3 an3 od4 an4 od5 an5 od6 an6 od7 an7 od8 an8 od9 an9 od10 an10 od11 an11 od12 an12 od13 an13 od14 an14 od15 an15 od16 an16 od17 an17 od18 an18 od19 an19 od20 an20 od21 an21 od22 an22 od23 an23 od24 an24 od25 an25 od26 an26 od27 an27 od28 an28 od29 an29 od30 an30 od31 an31 od32 an32 od33 an33 od34 an34 od35 an35 od36 an36 od37 an37 od38 an38 : Option Addr} {sl0 sl1 sl2 sl3 sl4 sl5 sl6 sl7 sl8 sl9 sl10 sl11 sl12 sl13 sl14 sl15 sl16 sl17 sl18 sl19 sl20 sl21 sl22 sl23 sl24 sl25 sl26 sl27 sl28 sl29 sl30 sl31 sl32 sl33 sl34 sl35 sl36 sl37 sl38 : Array (Option Value)}
    {oc0 kV0 dc0 pm0 cd0 ct0 oc1 kV1 dc1 pm1 cd1 ct1 oc2 kV2 dc2 pm2 cd2 ct2 oc3 kV3 dc3 pm3 cd3 ct3 oc4 kV4 dc4 pm4 cd4 ct4 oc5 kV5 dc5 pm5 cd5 ct5 oc6 kV6 dc6 pm6 cd6 ct6 oc7 kV7 dc7 pm7 cd7 ct7 oc8 kV8 dc8 pm8 cd8 ct8 oc9 kV9 dc9 pm9 cd9 ct9 oc10 kV10 dc10 pm10 cd10 ct10 oc11 kV11 dc11 pm11 cd11 ct11 oc12 kV12 dc12 pm12 cd12 ct12 oc13 kV13 dc13 pm13 cd13 ct13 oc14 kV14 dc14 pm14 cd14 ct14 oc15 kV15 dc15 pm15 cd15 ct15 oc16 kV16 dc16 pm16 cd16 ct16 oc17 kV17 dc17 pm17 cd17 ct17 oc18 kV18 dc18 pm18 cd18 ct18 oc19 kV19 dc19 pm19 cd19 ct19 oc20 kV20 dc20 pm20 cd20 ct20 oc21 kV21 dc21 pm21 cd21 ct21 oc22 kV22 dc22 pm22 cd22 ct22 oc23 kV23 dc23 pm23 cd23 ct23 oc24 kV24 dc24 pm24 cd24 ct24 oc25 kV25 dc25 pm25 cd25 ct25 oc26 kV26 dc26 pm26 cd26 ct26 oc27 kV27 dc27 pm27 cd27 ct27 oc28 kV28 dc28 pm28 cd28 ct28 oc29 kV29 dc29 pm29 cd29 ct29 oc30 kV30 dc30 pm30 cd30 ct30 oc31 kV31 dc31 pm31 cd31 ct31 oc32 kV32 dc32 pm32 cd32 ct32 oc33 kV33 dc33 pm33 cd33 ct33 oc34 kV34 dc34 pm34 cd34 ct34 oc35 kV35 dc35 pm35 cd35 ct35 oc36 kV36 dc36 pm36 cd36 ct36 oc37 kV37 dc37 pm37 cd37 ct37 oc38 kV38 dc38 pm38 cd38 ct38 : Value}
    (a0 : PySem.W.nsIn K mainGlobals "bezout" = some (some (.ref f0))) (l0 : K.lookup f0 = some ⟨oc0, od0, .func (PySem.W.fnOf "bezout" "bezout" (defArgs sBezout) (defBody sBezout) (defScope sBezout) .none kV0 dc0 pm0 an0 cd0 ct0), sl0⟩) (c0 : PySem.W.codeIn K cd0 "bezout" = true) (k0 : PySem.W.keepIn K (.ref f0) = true)
    (a1 : PySem.W.nsIn K mainGlobals "measure" = some (some (.ref f1))) (l1 : K.lookup f1 = some ⟨oc1, od1, .func (PySem.W.fnOf "measure" "measure" (defArgs sMeasure) (defBody sMeasure) (defScope sMeasure) .none kV1 dc1 pm1 an1 cd1 ct1), sl1⟩) (c1 : PySem.W.codeIn K cd1 "measure" = true) (k1 : PySem.W.keepIn K (.ref f1) = true)
    (a2 : PySem.W.nsIn K mainGlobals "floor_root" = some (some (.ref f2))) (l2 : K.lookup f2 = some ⟨oc2, od2, .func (PySem.W.fnOf "floor_root" "floor_root" (defArgs sFloorRoot) (defBody sFloorRoot) (defScope sFloorRoot) .none kV2 dc2 pm2 an2 cd2 ct2), sl2⟩) (c2 : PySem.W.codeIn K cd2 "floor_root" = true) (k2 : PySem.W.keepIn K (.ref f2) = true)
    (a3 : PySem.W.nsIn K mainGlobals "is_square" = some (some (.ref f3))) (l3 : K.lookup f3 = some ⟨oc3, od3, .func (PySem.W.fnOf "is_square" "is_square" (defArgs sIsSquare) (defBody sIsSquare) (defScope sIsSquare) .none kV3 dc3 pm3 an3 cd3 ct3), sl3⟩) (c3 : PySem.W.codeIn K cd3 "is_square" = true) (k3 : PySem.W.keepIn K (.ref f3) = true)
    (a4 : PySem.W.nsIn K mainGlobals "power" = some (some (.ref f4))) (l4 : K.lookup f4 = some ⟨oc4, od4, .func (PySem.W.fnOf "power" "power" (defArgs sPower) (defBody sPower) (defScope sPower) .none kV4 dc4 pm4 an4 cd4 ct4), sl4⟩) (c4 : PySem.W.codeIn K cd4 "power" = true) (k4 : PySem.W.keepIn K (.ref f4) = true)
    (a5 : PySem.W.nsIn K mainGlobals "power_modulo" = some (some (.ref f5))) (l5 : K.lookup f5 = some ⟨oc5, od5, .func (PySem.W.fnOf "power_modulo" "power_modulo" (defArgs sPowerModulo) (defBody sPowerModulo) (defScope sPowerModulo) .none kV5 dc5 pm5 an5 cd5 ct5), sl5⟩) (c5 : PySem.W.codeIn K cd5 "power_modulo" = true) (k5 : PySem.W.keepIn K (.ref f5) = true)
    (a6 : PySem.W.nsIn K mainGlobals "taken_out" = some (some (.ref f6))) (l6 : K.lookup f6 = some ⟨oc6, od6, .func (PySem.W.fnOf "taken_out" "taken_out" (defArgs sTakenOut) (defBody sTakenOut) (defScope sTakenOut) .none kV6 dc6 pm6 an6 cd6 ct6), sl6⟩) (c6 : PySem.W.codeIn K cd6 "taken_out" = true) (k6 : PySem.W.keepIn K (.ref f6) = true)
    (a7 : PySem.W.nsIn K mainGlobals "is_prime" = some (some (.ref f7))) (l7 : K.lookup f7 = some ⟨oc7, od7, .func (PySem.W.fnOf "is_prime" "is_prime" (defArgs sIsPrime) (defBody sIsPrime) (defScope sIsPrime) .none kV7 dc7 pm7 an7 cd7 ct7), sl7⟩) (c7 : PySem.W.codeIn K cd7 "is_prime" = true) (k7 : PySem.W.keepIn K (.ref f7) = true)
    (a8 : PySem.W.nsIn K mainGlobals "_behaves_as_prime" = some (some (.ref f8))) (l8 : K.lookup f8 = some ⟨oc8, od8, .func (PySem.W.fnOf "_behaves_as_prime" "_behaves_as_prime" (defArgs sBehavesAsPrime) (defBody sBehavesAsPrime) (defScope sBehavesAsPrime) .none kV8 dc8 pm8 an8 cd8 ct8), sl8⟩) (c8 : PySem.W.codeIn K cd8 "_behaves_as_prime" = true) (k8 : PySem.W.keepIn K (.ref f8) = true)
    (a9 : PySem.W.nsIn K mainGlobals "prime_parts" = some (some (.ref f9))) (l9 : K.lookup f9 = some ⟨oc9, od9, .func (PySem.W.fnOf "prime_parts" "prime_parts" (defArgs sPrimeParts) (defBody sPrimeParts) (defScope sPrimeParts) .none kV9 dc9 pm9 an9 cd9 ct9), sl9⟩) (c9 : PySem.W.codeIn K cd9 "prime_parts" = true) (k9 : PySem.W.keepIn K (.ref f9) = true)
    (a10 : PySem.W.nsIn K mainGlobals "_least_measure" = some (some (.ref f10))) (l10 : K.lookup f10 = some ⟨oc10, od10, .func (PySem.W.fnOf "_least_measure" "_least_measure" (defArgs sLeastMeasure) (defBody sLeastMeasure) (defScope sLeastMeasure) .none kV10 dc10 pm10 an10 cd10 ct10), sl10⟩) (c10 : PySem.W.codeIn K cd10 "_least_measure" = true) (k10 : PySem.W.keepIn K (.ref f10) = true)
    (a11 : PySem.W.nsIn K mainGlobals "products" = some (some (.ref f11))) (l11 : K.lookup f11 = some ⟨oc11, od11, .func (PySem.W.fnOf "products" "products" (defArgs sProducts) (defBody sProducts) (defScope sProducts) .none kV11 dc11 pm11 an11 cd11 ct11), sl11⟩) (c11 : PySem.W.codeIn K cd11 "products" = true) (k11 : PySem.W.keepIn K (.ref f11) = true)
    (a12 : PySem.W.nsIn K mainGlobals "discriminant" = some (some (.ref f12))) (l12 : K.lookup f12 = some ⟨oc12, od12, .func (PySem.W.fnOf "discriminant" "discriminant" (defArgs sDiscriminant) (defBody sDiscriminant) (defScope sDiscriminant) .none kV12 dc12 pm12 an12 cd12 ct12), sl12⟩) (c12 : PySem.W.codeIn K cd12 "discriminant" = true) (k12 : PySem.W.keepIn K (.ref f12) = true)
    (a13 : PySem.W.nsIn K mainGlobals "worth" = some (some (.ref f13))) (l13 : K.lookup f13 = some ⟨oc13, od13, .func (PySem.W.fnOf "worth" "worth" (defArgs sWorth) (defBody sWorth) (defScope sWorth) .none kV13 dc13 pm13 an13 cd13 ct13), sl13⟩) (c13 : PySem.W.codeIn K cd13 "worth" = true) (k13 : PySem.W.keepIn K (.ref f13) = true)
    (a14 : PySem.W.nsIn K mainGlobals "act" = some (some (.ref f14))) (l14 : K.lookup f14 = some ⟨oc14, od14, .func (PySem.W.fnOf "act" "act" (defArgs sAct) (defBody sAct) (defScope sAct) .none kV14 dc14 pm14 an14 cd14 ct14), sl14⟩) (c14 : PySem.W.codeIn K cd14 "act" = true) (k14 : PySem.W.keepIn K (.ref f14) = true)
    (a15 : PySem.W.nsIn K mainGlobals "kind" = some (some (.ref f15))) (l15 : K.lookup f15 = some ⟨oc15, od15, .func (PySem.W.fnOf "kind" "kind" (defArgs sKind) (defBody sKind) (defScope sKind) .none kV15 dc15 pm15 an15 cd15 ct15), sl15⟩) (c15 : PySem.W.codeIn K cd15 "kind" = true) (k15 : PySem.W.keepIn K (.ref f15) = true)
    (a16 : PySem.W.nsIn K mainGlobals "multiply" = some (some (.ref f16))) (l16 : K.lookup f16 = some ⟨oc16, od16, .func (PySem.W.fnOf "multiply" "multiply" (defArgs sMultiply) (defBody sMultiply) (defScope sMultiply) .none kV16 dc16 pm16 an16 cd16 ct16), sl16⟩) (c16 : PySem.W.codeIn K cd16 "multiply" = true) (k16 : PySem.W.keepIn K (.ref f16) = true)
    (a17 : PySem.W.nsIn K mainGlobals "apply" = some (some (.ref f17))) (l17 : K.lookup f17 = some ⟨oc17, od17, .func (PySem.W.fnOf "apply" "apply" (defArgs sApply) (defBody sApply) (defScope sApply) .none kV17 dc17 pm17 an17 cd17 ct17), sl17⟩) (c17 : PySem.W.codeIn K cd17 "apply" = true) (k17 : PySem.W.keepIn K (.ref f17) = true)
    (a18 : PySem.W.nsIn K mainGlobals "completed" = some (some (.ref f18))) (l18 : K.lookup f18 = some ⟨oc18, od18, .func (PySem.W.fnOf "completed" "completed" (defArgs sCompleted) (defBody sCompleted) (defScope sCompleted) .none kV18 dc18 pm18 an18 cd18 ct18), sl18⟩) (c18 : PySem.W.codeIn K cd18 "completed" = true) (k18 : PySem.W.keepIn K (.ref f18) = true)
    (a19 : PySem.W.nsIn K mainGlobals "zero_lines" = some (some (.ref f19))) (l19 : K.lookup f19 = some ⟨oc19, od19, .func (PySem.W.fnOf "zero_lines" "zero_lines" (defArgs sZeroLines) (defBody sZeroLines) (defScope sZeroLines) .none kV19 dc19 pm19 an19 cd19 ct19), sl19⟩) (c19 : PySem.W.codeIn K cd19 "zero_lines" = true) (k19 : PySem.W.keepIn K (.ref f19) = true)
    (a20 : PySem.W.nsIn K mainGlobals "directed" = some (some (.ref f20))) (l20 : K.lookup f20 = some ⟨oc20, od20, .func (PySem.W.fnOf "directed" "directed" (defArgs sDirected) (defBody sDirected) (defScope sDirected) .none kV20 dc20 pm20 an20 cd20 ct20), sl20⟩) (c20 : PySem.W.codeIn K cd20 "directed" = true) (k20 : PySem.W.keepIn K (.ref f20) = true)
    (a21 : PySem.W.nsIn K mainGlobals "canonical_split" = some (some (.ref f21))) (l21 : K.lookup f21 = some ⟨oc21, od21, .func (PySem.W.fnOf "canonical_split" "canonical_split" (defArgs sCanonicalSplit) (defBody sCanonicalSplit) (defScope sCanonicalSplit) .none kV21 dc21 pm21 an21 cd21 ct21), sl21⟩) (c21 : PySem.W.codeIn K cd21 "canonical_split" = true) (k21 : PySem.W.keepIn K (.ref f21) = true)
    (a22 : PySem.W.nsIn K mainGlobals "canonical_form" = some (some (.ref f22))) (l22 : K.lookup f22 = some ⟨oc22, od22, .func (PySem.W.fnOf "canonical_form" "canonical_form" (defArgs sCanonicalForm) (defBody sCanonicalForm) (defScope sCanonicalForm) .none kV22 dc22 pm22 an22 cd22 ct22), sl22⟩) (c22 : PySem.W.codeIn K cd22 "canonical_form" = true) (k22 : PySem.W.keepIn K (.ref f22) = true)
    (a23 : PySem.W.nsIn K mainGlobals "split_points" = some (some (.ref f23))) (l23 : K.lookup f23 = some ⟨oc23, od23, .func (PySem.W.fnOf "split_points" "split_points" (defArgs sSplitPoints) (defBody sSplitPoints) (defScope sSplitPoints) .none kV23 dc23 pm23 an23 cd23 ct23), sl23⟩) (c23 : PySem.W.codeIn K cd23 "split_points" = true) (k23 : PySem.W.keepIn K (.ref f23) = true)
    (a24 : PySem.W.nsIn K mainGlobals "measures" = some (some (.ref f24))) (l24 : K.lookup f24 = some ⟨oc24, od24, .func (PySem.W.fnOf "measures" "measures" (defArgs sMeasures) (defBody sMeasures) (defScope sMeasures) .none kV24 dc24 pm24 an24 cd24 ct24), sl24⟩) (c24 : PySem.W.codeIn K cd24 "measures" = true) (k24 : PySem.W.keepIn K (.ref f24) = true)
    (a25 : PySem.W.nsIn K mainGlobals "is_represented" = some (some (.ref f25))) (l25 : K.lookup f25 = some ⟨oc25, od25, .func (PySem.W.fnOf "is_represented" "is_represented" (defArgs sIsRepresented) (defBody sIsRepresented) (defScope sIsRepresented) .none kV25 dc25 pm25 an25 cd25 ct25), sl25⟩) (c25 : PySem.W.codeIn K cd25 "is_represented" = true) (k25 : PySem.W.keepIn K (.ref f25) = true)
    (a26 : PySem.W.nsIn K mainGlobals "_law_cell" = some (some (.ref f26))) (l26 : K.lookup f26 = some ⟨oc26, od26, .func (PySem.W.fnOf "_law_cell" "_law_cell" (defArgs sLawCell) (defBody sLawCell) (defScope sLawCell) .none kV26 dc26 pm26 an26 cd26 ct26), sl26⟩) (c26 : PySem.W.codeIn K cd26 "_law_cell" = true) (k26 : PySem.W.keepIn K (.ref f26) = true)
    (a27 : PySem.W.nsIn K mainGlobals "_law_numbers" = some (some (.ref f27))) (l27 : K.lookup f27 = some ⟨oc27, od27, .func (PySem.W.fnOf "_law_numbers" "_law_numbers" (defArgs sLawNumbers) (defBody sLawNumbers) (defScope sLawNumbers) .none kV27 dc27 pm27 an27 cd27 ct27), sl27⟩) (c27 : PySem.W.codeIn K cd27 "_law_numbers" = true) (k27 : PySem.W.keepIn K (.ref f27) = true)
    (a28 : PySem.W.nsIn K mainGlobals "_law_state" = some (some (.ref f28))) (l28 : K.lookup f28 = some ⟨oc28, od28, .func (PySem.W.fnOf "_law_state" "_law_state" (defArgs sLawState) (defBody sLawState) (defScope sLawState) .none kV28 dc28 pm28 an28 cd28 ct28), sl28⟩) (c28 : PySem.W.codeIn K cd28 "_law_state" = true) (k28 : PySem.W.keepIn K (.ref f28) = true)
    (a29 : PySem.W.nsIn K mainGlobals "_law_next" = some (some (.ref f29))) (l29 : K.lookup f29 = some ⟨oc29, od29, .func (PySem.W.fnOf "_law_next" "_law_next" (defArgs sLawNext) (defBody sLawNext) (defScope sLawNext) .none kV29 dc29 pm29 an29 cd29 ct29), sl29⟩) (c29 : PySem.W.codeIn K cd29 "_law_next" = true) (k29 : PySem.W.keepIn K (.ref f29) = true)
    (a30 : PySem.W.nsIn K mainGlobals "_law_root" = some (some (.ref f30))) (l30 : K.lookup f30 = some ⟨oc30, od30, .func (PySem.W.fnOf "_law_root" "_law_root" (defArgs sLawRoot) (defBody sLawRoot) (defScope sLawRoot) .none kV30 dc30 pm30 an30 cd30 ct30), sl30⟩) (c30 : PySem.W.codeIn K cd30 "_law_root" = true) (k30 : PySem.W.keepIn K (.ref f30) = true)
    (a31 : PySem.W.nsIn K mainGlobals "_law_mul" = some (some (.ref f31))) (l31 : K.lookup f31 = some ⟨oc31, od31, .func (PySem.W.fnOf "_law_mul" "_law_mul" (defArgs sLawMul) (defBody sLawMul) (defScope sLawMul) .none kV31 dc31 pm31 an31 cd31 ct31), sl31⟩) (c31 : PySem.W.codeIn K cd31 "_law_mul" = true) (k31 : PySem.W.keepIn K (.ref f31) = true)
    (a32 : PySem.W.nsIn K mainGlobals "_law_worth" = some (some (.ref f32))) (l32 : K.lookup f32 = some ⟨oc32, od32, .func (PySem.W.fnOf "_law_worth" "_law_worth" (defArgs sLawWorth) (defBody sLawWorth) (defScope sLawWorth) .none kV32 dc32 pm32 an32 cd32 ct32), sl32⟩) (c32 : PySem.W.codeIn K cd32 "_law_worth" = true) (k32 : PySem.W.keepIn K (.ref f32) = true)
    (a33 : PySem.W.nsIn K mainGlobals "_law_act" = some (some (.ref f33))) (l33 : K.lookup f33 = some ⟨oc33, od33, .func (PySem.W.fnOf "_law_act" "_law_act" (defArgs sLawAct) (defBody sLawAct) (defScope sLawAct) .none kV33 dc33 pm33 an33 cd33 ct33), sl33⟩) (c33 : PySem.W.codeIn K cd33 "_law_act" = true) (k33 : PySem.W.keepIn K (.ref f33) = true)
    (a34 : PySem.W.nsIn K mainGlobals "_law_change" = some (some (.ref f34))) (l34 : K.lookup f34 = some ⟨oc34, od34, .func (PySem.W.fnOf "_law_change" "_law_change" (defArgs sLawChange) (defBody sLawChange) (defScope sLawChange) .none kV34 dc34 pm34 an34 cd34 ct34), sl34⟩) (c34 : PySem.W.codeIn K cd34 "_law_change" = true) (k34 : PySem.W.keepIn K (.ref f34) = true)
    (a35 : PySem.W.nsIn K mainGlobals "_law_split" = some (some (.ref f35))) (l35 : K.lookup f35 = some ⟨oc35, od35, .func (PySem.W.fnOf "_law_split" "_law_split" (defArgs sLawSplit) (defBody sLawSplit) (defScope sLawSplit) .none kV35 dc35 pm35 an35 cd35 ct35), sl35⟩) (c35 : PySem.W.codeIn K cd35 "_law_split" = true) (k35 : PySem.W.keepIn K (.ref f35) = true)
    (a36 : PySem.W.nsIn K mainGlobals "_law_lines" = some (some (.ref f36))) (l36 : K.lookup f36 = some ⟨oc36, od36, .func (PySem.W.fnOf "_law_lines" "_law_lines" (defArgs sLawLines) (defBody sLawLines) (defScope sLawLines) .none kV36 dc36 pm36 an36 cd36 ct36), sl36⟩) (c36 : PySem.W.codeIn K cd36 "_law_lines" = true) (k36 : PySem.W.keepIn K (.ref f36) = true)
    (a37 : PySem.W.nsIn K mainGlobals "_law_search" = some (some (.ref f37))) (l37 : K.lookup f37 = some ⟨oc37, od37, .func (PySem.W.fnOf "_law_search" "_law_search" (defArgs sLawSearch) (defBody sLawSearch) (defScope sLawSearch) .none kV37 dc37 pm37 an37 cd37 ct37), sl37⟩) (c37 : PySem.W.codeIn K cd37 "_law_search" = true) (k37 : PySem.W.keepIn K (.ref f37) = true)
    (a38 : PySem.W.nsIn K mainGlobals "law" = some (some (.ref f38))) (l38 : K.lookup f38 = some ⟨oc38, od38, .func (PySem.W.fnOf "law" "law" (defArgs sLaw) (defBody sLaw) (defScope sLaw) .none kV38 dc38 pm38 an38 cd38 ct38), sl38⟩) (c38 : PySem.W.codeIn K cd38 "law" = true) (k38 : PySem.W.keepIn K (.ref f38) = true)
    (z0 : PySem.W.nsIn K mainGlobals "abs" = some none)
    (z1 : PySem.W.nsIn K mainGlobals "bool" = some none)
    (z2 : PySem.W.nsIn K mainGlobals "int" = some none)
    (z3 : PySem.W.nsIn K mainGlobals "isinstance" = some none)
    (z4 : PySem.W.nsIn K mainGlobals "len" = some none)
    (z5 : PySem.W.nsIn K mainGlobals "max" = some none)
    (z6 : PySem.W.nsIn K mainGlobals "range" = some none)
    (z7 : PySem.W.nsIn K mainGlobals "sorted" = some none)
    (z8 : PySem.W.nsIn K mainGlobals "tuple" = some none)
    (i0 : PySem.W.nsIn K mainGlobals "gcd" = some (some (.builtin "math.gcd")))
    (i1 : PySem.W.nsIn K mainGlobals "isqrt" = some (some (.builtin "math.isqrt")))
    {fw0 : Addr} {odw0 : Option Addr} {itw0 : Array Value} {nw0 : Nat} {slw0 : Array (Option Value)}
    (w0 : PySem.W.nsIn K mainGlobals "WITNESSES" = some (some (.ref fw0))) (x0 : K.lookup fw0 = some ⟨.type "tuple", odw0, .seq itw0 nw0, slw0⟩) (y0 : itw0.size ≤ sizeLine) (v0 : Vals [.int 2, .int 3, .int 5, .int 7, .int 11, .int 13, .int 17, .int 19, .int 23, .int 29, .int 31, .int 37] itw0.toList)
    {fw1 : Addr} {odw1 : Option Addr} {itw1 : Array Value} {nw1 : Nat} {slw1 : Array (Option Value)}
    (w1 : PySem.W.nsIn K mainGlobals "UNIT" = some (some (.ref fw1))) (x1 : K.lookup fw1 = some ⟨.type "tuple", odw1, .seq itw1 nw1, slw1⟩) (y1 : itw1.size ≤ sizeLine) (v1 : Vals [.int 1, .int 0, .int 0, .int 1] itw1.toList)
    : ∃ fd : FuncData, (∀ (s : Shared) (v : Value), BindsTo s fd ⟨[v], []⟩ [("script", v)]) ∧ ∀ base : Heap, K.In base → base.Ns mainGlobals mg → FnOk l.prog w K mg base CX0 8 f fd ["script"] (spLaw K) := by
  have e := hfa.symm.trans (PySem.W.mg_of X G a38)
  cases e
  have F0 := fun_mk (st := sBezout) l0 c0 k0
  have F1 := fun_mk (st := sMeasure) l1 c1 k1
  have F2 := fun_mk (st := sFloorRoot) l2 c2 k2
  have F3 := fun_mk (st := sIsSquare) l3 c3 k3
  have F4 := fun_mk (st := sPower) l4 c4 k4
  have F5 := fun_mk (st := sPowerModulo) l5 c5 k5
  have F6 := fun_mk (st := sTakenOut) l6 c6 k6
  have F7 := fun_mk (st := sIsPrime) l7 c7 k7
  have F8 := fun_mk (st := sBehavesAsPrime) l8 c8 k8
  have F9 := fun_mk (st := sPrimeParts) l9 c9 k9
  have F10 := fun_mk (st := sLeastMeasure) l10 c10 k10
  have F11 := fun_mk (st := sProducts) l11 c11 k11
  have F12 := fun_mk (st := sDiscriminant) l12 c12 k12
  have F13 := fun_mk (st := sWorth) l13 c13 k13
  have F14 := fun_mk (st := sAct) l14 c14 k14
  have F15 := fun_mk (st := sKind) l15 c15 k15
  have F16 := fun_mk (st := sMultiply) l16 c16 k16
  have F17 := fun_mk (st := sApply) l17 c17 k17
  have F18 := fun_mk (st := sCompleted) l18 c18 k18
  have F19 := fun_mk (st := sZeroLines) l19 c19 k19
  have F20 := fun_mk (st := sDirected) l20 c20 k20
  have F21 := fun_mk (st := sCanonicalSplit) l21 c21 k21
  have F22 := fun_mk (st := sCanonicalForm) l22 c22 k22
  have F23 := fun_mk (st := sSplitPoints) l23 c23 k23
  have F24 := fun_mk (st := sMeasures) l24 c24 k24
  have F25 := fun_mk (st := sIsRepresented) l25 c25 k25
  have F26 := fun_mk (st := sLawCell) l26 c26 k26
  have F27 := fun_mk (st := sLawNumbers) l27 c27 k27
  have F28 := fun_mk (st := sLawState) l28 c28 k28
  have F29 := fun_mk (st := sLawNext) l29 c29 k29
  have F30 := fun_mk (st := sLawRoot) l30 c30 k30
  have F31 := fun_mk (st := sLawMul) l31 c31 k31
  have F32 := fun_mk (st := sLawWorth) l32 c32 k32
  have F33 := fun_mk (st := sLawAct) l33 c33 k33
  have F34 := fun_mk (st := sLawChange) l34 c34 k34
  have F35 := fun_mk (st := sLawSplit) l35 c35 k35
  have F36 := fun_mk (st := sLawLines) l36 c36 k36
  have F37 := fun_mk (st := sLawSearch) l37 c37 k37
  have F38 := fun_mk (st := sLaw) l38 c38 k38
  have b0 := F0.binds (ps := ["a", "b"]) fun _ _ _ _ _ _ us hl => match us, hl with | [_, _], _ => rfl
  have b1 := F1.binds (ps := ["numbers"]) fun _ _ _ _ _ _ us hl => match us, hl with | [_], _ => rfl
  have b2 := F2.binds (ps := ["n"]) fun _ _ _ _ _ _ us hl => match us, hl with | [_], _ => rfl
  have b3 := F3.binds (ps := ["n"]) fun _ _ _ _ _ _ us hl => match us, hl with | [_], _ => rfl
  have b4 := F4.binds (ps := ["base", "many"]) fun _ _ _ _ _ _ us hl => match us, hl with | [_, _], _ => rfl
  have b5 := F5.binds (ps := ["base", "many", "modulus"]) fun _ _ _ _ _ _ us hl => match us, hl with | [_, _, _], _ => rfl
  have b6 := F6.binds (ps := ["n", "p"]) fun _ _ _ _ _ _ us hl => match us, hl with | [_, _], _ => rfl
  have b7 := F7.binds (ps := ["n"]) fun _ _ _ _ _ _ us hl => match us, hl with | [_], _ => rfl
  have b8 := F8.binds (ps := ["n", "base", "many", "odd"]) fun _ _ _ _ _ _ us hl => match us, hl with | [_, _, _, _], _ => rfl
  have b9 := F9.binds (ps := ["n"]) fun _ _ _ _ _ _ us hl => match us, hl with | [_], _ => rfl
  have b10 := F10.binds (ps := ["n", "start"]) fun _ _ _ _ _ _ us hl => match us, hl with | [_, _], _ => rfl
  have b11 := F11.binds (ps := ["parts"]) fun _ _ _ _ _ _ us hl => match us, hl with | [_], _ => rfl
  have b12 := F12.binds (ps := ["form"]) fun _ _ _ _ _ _ us hl => match us, hl with | [_], _ => rfl
  have b13 := F13.binds (ps := ["form", "point"]) fun _ _ _ _ _ _ us hl => match us, hl with | [_, _], _ => rfl
  have b14 := F14.binds (ps := ["form", "m"]) fun _ _ _ _ _ _ us hl => match us, hl with | [_, _], _ => rfl
  have b15 := F15.binds (ps := ["form"]) fun _ _ _ _ _ _ us hl => match us, hl with | [_], _ => rfl
  have b16 := F16.binds (ps := ["m", "n"]) fun _ _ _ _ _ _ us hl => match us, hl with | [_, _], _ => rfl
  have b17 := F17.binds (ps := ["m", "point"]) fun _ _ _ _ _ _ us hl => match us, hl with | [_, _], _ => rfl
  have b18 := F18.binds (ps := ["point"]) fun _ _ _ _ _ _ us hl => match us, hl with | [_], _ => rfl
  have b19 := F19.binds (ps := ["form"]) fun _ _ _ _ _ _ us hl => match us, hl with | [_], _ => rfl
  have b20 := F20.binds (ps := ["x", "y"]) fun _ _ _ _ _ _ us hl => match us, hl with | [_, _], _ => rfl
  have b21 := F21.binds (ps := ["form"]) fun _ _ _ _ _ _ us hl => match us, hl with | [_], _ => rfl
  have b22 := F22.binds (ps := ["form"]) fun _ _ _ _ _ _ us hl => match us, hl with | [_], _ => rfl
  have b23 := F23.binds (ps := ["form", "n"]) fun _ _ _ _ _ _ us hl => match us, hl with | [_, _], _ => rfl
  have b24 := F24.binds (ps := ["n"]) fun _ _ _ _ _ _ us hl => match us, hl with | [_], _ => rfl
  have b25 := F25.binds (ps := ["form", "n"]) fun _ _ _ _ _ _ us hl => match us, hl with | [_, _], _ => rfl
  have b26 := F26.binds (ps := ["script", "k"]) fun _ _ _ _ _ _ us hl => match us, hl with | [_, _], _ => rfl
  have b27 := F27.binds (ps := ["cell", "many"]) fun _ _ _ _ _ _ us hl => match us, hl with | [_, _], _ => rfl
  have b28 := F28.binds (ps := ["script"]) fun _ _ _ _ _ _ us hl => match us, hl with | [_], _ => rfl
  have b29 := F29.binds (ps := ["state", "many"]) fun _ _ _ _ _ _ us hl => match us, hl with | [_, _], _ => rfl
  have b30 := F30.binds (ps := ["n"]) fun _ _ _ _ _ _ us hl => match us, hl with | [_], _ => rfl
  have b31 := F31.binds (ps := ["m", "n"]) fun _ _ _ _ _ _ us hl => match us, hl with | [_, _], _ => rfl
  have b32 := F32.binds (ps := ["form", "x", "y"]) fun _ _ _ _ _ _ us hl => match us, hl with | [_, _, _], _ => rfl
  have b33 := F33.binds (ps := ["form", "m"]) fun _ _ _ _ _ _ us hl => match us, hl with | [_, _], _ => rfl
  have b34 := F34.binds (ps := ["state", "many"]) fun _ _ _ _ _ _ us hl => match us, hl with | [_, _], _ => rfl
  have b35 := F35.binds (ps := ["state"]) fun _ _ _ _ _ _ us hl => match us, hl with | [_], _ => rfl
  have b36 := F36.binds (ps := ["form"]) fun _ _ _ _ _ _ us hl => match us, hl with | [_], _ => rfl
  have b37 := F37.binds (ps := ["form", "n"]) fun _ _ _ _ _ _ us hl => match us, hl with | [_, _], _ => rfl
  have b38 := F38.binds (ps := ["script"]) fun _ _ _ _ _ _ us hl => match us, hl with | [_], _ => rfl
  let fa : Nat → Addr := fun i => [f0, f1, f2, f3, f4, f5, f6, f7, f8, f9, f10, f11, f12, f13, f14, f15, f16, f17, f18, f19, f20, f21, f22, f23, f24, f25, f26, f27, f28, f29, f30, f31, f32, f33, f34, f35, f36, f37, f, fw0, fw1].getD i 0
  let fd : Nat → FuncData := fun i => match i with
    | 0 => PySem.W.fnOf "bezout" "bezout" (defArgs sBezout) (defBody sBezout) (defScope sBezout) .none kV0 dc0 pm0 an0 cd0 ct0
    | 1 => PySem.W.fnOf "measure" "measure" (defArgs sMeasure) (defBody sMeasure) (defScope sMeasure) .none kV1 dc1 pm1 an1 cd1 ct1
    | 2 => PySem.W.fnOf "floor_root" "floor_root" (defArgs sFloorRoot) (defBody sFloorRoot) (defScope sFloorRoot) .none kV2 dc2 pm2 an2 cd2 ct2
    | 3 => PySem.W.fnOf "is_square" "is_square" (defArgs sIsSquare) (defBody sIsSquare) (defScope sIsSquare) .none kV3 dc3 pm3 an3 cd3 ct3
    | 4 => PySem.W.fnOf "power" "power" (defArgs sPower) (defBody sPower) (defScope sPower) .none kV4 dc4 pm4 an4 cd4 ct4
    | 5 => PySem.W.fnOf "power_modulo" "power_modulo" (defArgs sPowerModulo) (defBody sPowerModulo) (defScope sPowerModulo) .none kV5 dc5 pm5 an5 cd5 ct5
    | 6 => PySem.W.fnOf "taken_out" "taken_out" (defArgs sTakenOut) (defBody sTakenOut) (defScope sTakenOut) .none kV6 dc6 pm6 an6 cd6 ct6
    | 7 => PySem.W.fnOf "is_prime" "is_prime" (defArgs sIsPrime) (defBody sIsPrime) (defScope sIsPrime) .none kV7 dc7 pm7 an7 cd7 ct7
    | 8 => PySem.W.fnOf "_behaves_as_prime" "_behaves_as_prime" (defArgs sBehavesAsPrime) (defBody sBehavesAsPrime) (defScope sBehavesAsPrime) .none kV8 dc8 pm8 an8 cd8 ct8
    | 9 => PySem.W.fnOf "prime_parts" "prime_parts" (defArgs sPrimeParts) (defBody sPrimeParts) (defScope sPrimeParts) .none kV9 dc9 pm9 an9 cd9 ct9
    | 10 => PySem.W.fnOf "_least_measure" "_least_measure" (defArgs sLeastMeasure) (defBody sLeastMeasure) (defScope sLeastMeasure) .none kV10 dc10 pm10 an10 cd10 ct10
    | 11 => PySem.W.fnOf "products" "products" (defArgs sProducts) (defBody sProducts) (defScope sProducts) .none kV11 dc11 pm11 an11 cd11 ct11
    | 12 => PySem.W.fnOf "discriminant" "discriminant" (defArgs sDiscriminant) (defBody sDiscriminant) (defScope sDiscriminant) .none kV12 dc12 pm12 an12 cd12 ct12
    | 13 => PySem.W.fnOf "worth" "worth" (defArgs sWorth) (defBody sWorth) (defScope sWorth) .none kV13 dc13 pm13 an13 cd13 ct13
    | 14 => PySem.W.fnOf "act" "act" (defArgs sAct) (defBody sAct) (defScope sAct) .none kV14 dc14 pm14 an14 cd14 ct14
    | 15 => PySem.W.fnOf "kind" "kind" (defArgs sKind) (defBody sKind) (defScope sKind) .none kV15 dc15 pm15 an15 cd15 ct15
    | 16 => PySem.W.fnOf "multiply" "multiply" (defArgs sMultiply) (defBody sMultiply) (defScope sMultiply) .none kV16 dc16 pm16 an16 cd16 ct16
    | 17 => PySem.W.fnOf "apply" "apply" (defArgs sApply) (defBody sApply) (defScope sApply) .none kV17 dc17 pm17 an17 cd17 ct17
    | 18 => PySem.W.fnOf "completed" "completed" (defArgs sCompleted) (defBody sCompleted) (defScope sCompleted) .none kV18 dc18 pm18 an18 cd18 ct18
    | 19 => PySem.W.fnOf "zero_lines" "zero_lines" (defArgs sZeroLines) (defBody sZeroLines) (defScope sZeroLines) .none kV19 dc19 pm19 an19 cd19 ct19
    | 20 => PySem.W.fnOf "directed" "directed" (defArgs sDirected) (defBody sDirected) (defScope sDirected) .none kV20 dc20 pm20 an20 cd20 ct20
    | 21 => PySem.W.fnOf "canonical_split" "canonical_split" (defArgs sCanonicalSplit) (defBody sCanonicalSplit) (defScope sCanonicalSplit) .none kV21 dc21 pm21 an21 cd21 ct21
    | 22 => PySem.W.fnOf "canonical_form" "canonical_form" (defArgs sCanonicalForm) (defBody sCanonicalForm) (defScope sCanonicalForm) .none kV22 dc22 pm22 an22 cd22 ct22
    | 23 => PySem.W.fnOf "split_points" "split_points" (defArgs sSplitPoints) (defBody sSplitPoints) (defScope sSplitPoints) .none kV23 dc23 pm23 an23 cd23 ct23
    | 24 => PySem.W.fnOf "measures" "measures" (defArgs sMeasures) (defBody sMeasures) (defScope sMeasures) .none kV24 dc24 pm24 an24 cd24 ct24
    | 25 => PySem.W.fnOf "is_represented" "is_represented" (defArgs sIsRepresented) (defBody sIsRepresented) (defScope sIsRepresented) .none kV25 dc25 pm25 an25 cd25 ct25
    | 26 => PySem.W.fnOf "_law_cell" "_law_cell" (defArgs sLawCell) (defBody sLawCell) (defScope sLawCell) .none kV26 dc26 pm26 an26 cd26 ct26
    | 27 => PySem.W.fnOf "_law_numbers" "_law_numbers" (defArgs sLawNumbers) (defBody sLawNumbers) (defScope sLawNumbers) .none kV27 dc27 pm27 an27 cd27 ct27
    | 28 => PySem.W.fnOf "_law_state" "_law_state" (defArgs sLawState) (defBody sLawState) (defScope sLawState) .none kV28 dc28 pm28 an28 cd28 ct28
    | 29 => PySem.W.fnOf "_law_next" "_law_next" (defArgs sLawNext) (defBody sLawNext) (defScope sLawNext) .none kV29 dc29 pm29 an29 cd29 ct29
    | 30 => PySem.W.fnOf "_law_root" "_law_root" (defArgs sLawRoot) (defBody sLawRoot) (defScope sLawRoot) .none kV30 dc30 pm30 an30 cd30 ct30
    | 31 => PySem.W.fnOf "_law_mul" "_law_mul" (defArgs sLawMul) (defBody sLawMul) (defScope sLawMul) .none kV31 dc31 pm31 an31 cd31 ct31
    | 32 => PySem.W.fnOf "_law_worth" "_law_worth" (defArgs sLawWorth) (defBody sLawWorth) (defScope sLawWorth) .none kV32 dc32 pm32 an32 cd32 ct32
    | 33 => PySem.W.fnOf "_law_act" "_law_act" (defArgs sLawAct) (defBody sLawAct) (defScope sLawAct) .none kV33 dc33 pm33 an33 cd33 ct33
    | 34 => PySem.W.fnOf "_law_change" "_law_change" (defArgs sLawChange) (defBody sLawChange) (defScope sLawChange) .none kV34 dc34 pm34 an34 cd34 ct34
    | 35 => PySem.W.fnOf "_law_split" "_law_split" (defArgs sLawSplit) (defBody sLawSplit) (defScope sLawSplit) .none kV35 dc35 pm35 an35 cd35 ct35
    | 36 => PySem.W.fnOf "_law_lines" "_law_lines" (defArgs sLawLines) (defBody sLawLines) (defScope sLawLines) .none kV36 dc36 pm36 an36 cd36 ct36
    | 37 => PySem.W.fnOf "_law_search" "_law_search" (defArgs sLawSearch) (defBody sLawSearch) (defScope sLawSearch) .none kV37 dc37 pm37 an37 cd37 ct37
    | _ => PySem.W.fnOf "law" "law" (defArgs sLaw) (defBody sLaw) (defScope sLaw) .none kV38 dc38 pm38 an38 cd38 ct38
  have T : Txt K mg fa fd := {
    F_bezout := F0, B_bezout := b0, G_bezout := PySem.W.mg_of X G a0,
    F_measure := F1, B_measure := b1, G_measure := PySem.W.mg_of X G a1,
    F_floor_root := F2, B_floor_root := b2, G_floor_root := PySem.W.mg_of X G a2,
    F_is_square := F3, B_is_square := b3, G_is_square := PySem.W.mg_of X G a3,
    F_power := F4, B_power := b4, G_power := PySem.W.mg_of X G a4,
    F_power_modulo := F5, B_power_modulo := b5, G_power_modulo := PySem.W.mg_of X G a5,
    F_taken_out := F6, B_taken_out := b6, G_taken_out := PySem.W.mg_of X G a6,
    F_is_prime := F7, B_is_prime := b7, G_is_prime := PySem.W.mg_of X G a7,
    F__behaves_as_prime := F8, B__behaves_as_prime := b8, G__behaves_as_prime := PySem.W.mg_of X G a8,
    F_prime_parts := F9, B_prime_parts := b9, G_prime_parts := PySem.W.mg_of X G a9,
    F__least_measure := F10, B__least_measure := b10, G__least_measure := PySem.W.mg_of X G a10,
    F_products := F11, B_products := b11, G_products := PySem.W.mg_of X G a11,
    F_discriminant := F12, B_discriminant := b12, G_discriminant := PySem.W.mg_of X G a12,
    F_worth := F13, B_worth := b13, G_worth := PySem.W.mg_of X G a13,
    F_act := F14, B_act := b14, G_act := PySem.W.mg_of X G a14,
    F_kind := F15, B_kind := b15, G_kind := PySem.W.mg_of X G a15,
    F_multiply := F16, B_multiply := b16, G_multiply := PySem.W.mg_of X G a16,
    F_apply := F17, B_apply := b17, G_apply := PySem.W.mg_of X G a17,
    F_completed := F18, B_completed := b18, G_completed := PySem.W.mg_of X G a18,
    F_zero_lines := F19, B_zero_lines := b19, G_zero_lines := PySem.W.mg_of X G a19,
    F_directed := F20, B_directed := b20, G_directed := PySem.W.mg_of X G a20,
    F_canonical_split := F21, B_canonical_split := b21, G_canonical_split := PySem.W.mg_of X G a21,
    F_canonical_form := F22, B_canonical_form := b22, G_canonical_form := PySem.W.mg_of X G a22,
    F_split_points := F23, B_split_points := b23, G_split_points := PySem.W.mg_of X G a23,
    F_measures := F24, B_measures := b24, G_measures := PySem.W.mg_of X G a24,
    F_is_represented := F25, B_is_represented := b25, G_is_represented := PySem.W.mg_of X G a25,
    F__law_cell := F26, B__law_cell := b26, G__law_cell := PySem.W.mg_of X G a26,
    F__law_numbers := F27, B__law_numbers := b27, G__law_numbers := PySem.W.mg_of X G a27,
    F__law_state := F28, B__law_state := b28, G__law_state := PySem.W.mg_of X G a28,
    F__law_next := F29, B__law_next := b29, G__law_next := PySem.W.mg_of X G a29,
    F__law_root := F30, B__law_root := b30, G__law_root := PySem.W.mg_of X G a30,
    F__law_mul := F31, B__law_mul := b31, G__law_mul := PySem.W.mg_of X G a31,
    F__law_worth := F32, B__law_worth := b32, G__law_worth := PySem.W.mg_of X G a32,
    F__law_act := F33, B__law_act := b33, G__law_act := PySem.W.mg_of X G a33,
    F__law_change := F34, B__law_change := b34, G__law_change := PySem.W.mg_of X G a34,
    F__law_split := F35, B__law_split := b35, G__law_split := PySem.W.mg_of X G a35,
    F__law_lines := F36, B__law_lines := b36, G__law_lines := PySem.W.mg_of X G a36,
    F__law_search := F37, B__law_search := b37, G__law_search := PySem.W.mg_of X G a37,
    F_law := F38, B_law := b38, G_law := PySem.W.mg_of X G a38,
    m_abs := PySem.W.mg_none_of X G z0, m_bool := PySem.W.mg_none_of X G z1, m_int := PySem.W.mg_none_of X G z2, m_isinstance := PySem.W.mg_none_of X G z3, m_len := PySem.W.mg_none_of X G z4, m_max := PySem.W.mg_none_of X G z5, m_range := PySem.W.mg_none_of X G z6, m_sorted := PySem.W.mg_none_of X G z7, m_tuple := PySem.W.mg_none_of X G z8, g_gcd := PySem.W.mg_of X G i0, g_isqrt := PySem.W.mg_of X G i1, g_WITNESSES := PySem.W.mg_of X G w0, S_WITNESSES := fun H => .inr ⟨_, _, _, x0, rfl, rfl, y0, v0⟩, g_UNIT := PySem.W.mg_of X G w1, S_UNIT := fun H => .inr ⟨_, _, _, x1, rfl, rfl, y1, v1⟩ }
  exact ⟨fd 38, fun s v => .of_eq rfl, fun base _ _ => okLaw T⟩
end Wc
open PySem PySem.W PyProof.Rows
set_option maxHeartbeats 0 in
theorem PySem.Challenge.cw_wholeconic_k23_split_representations_holds : PySem.Challenge.rw_wholeconic_k23_split_representations.Holds := by
  w_on; o_law; k_head; (case hw => w_witness2)
  k_fill
  refine L2.walk_of (l := PySem.Challenge.rw_wholeconic_k23_split_representations) (n := 63) (k := 8) (x := "script") (CX := fun _ => L2.CX0) (sp := fun w => Wc.spLaw _) rfl (by decide) rfl ⟨rfl, by decide, by decide⟩ (fun w h Y => PySem.W.kIn_of Y) ?F (fun _ _ a ns hl _ hS => ⟨a, ns, rfl, hS, hl, fun _ => rfl⟩) (fun _ _ _ _ _ h => h)
  case F =>
    intro w mg fa h KX G hmg
    refine' Wc.all_mk KX G hmg ?a0 ?l0 ?c0 ?k0 ?a1 ?l1 ?c1 ?k1 ?a2 ?l2 ?c2 ?k2 ?a3 ?l3 ?c3 ?k3 ?a4 ?l4 ?c4 ?k4 ?a5 ?l5 ?c5 ?k5 ?a6 ?l6 ?c6 ?k6 ?a7 ?l7 ?c7 ?k7 ?a8 ?l8 ?c8 ?k8 ?a9 ?l9 ?c9 ?k9 ?a10 ?l10 ?c10 ?k10 ?a11 ?l11 ?c11 ?k11 ?a12 ?l12 ?c12 ?k12 ?a13 ?l13 ?c13 ?k13 ?a14 ?l14 ?c14 ?k14 ?a15 ?l15 ?c15 ?k15 ?a16 ?l16 ?c16 ?k16 ?a17 ?l17 ?c17 ?k17 ?a18 ?l18 ?c18 ?k18 ?a19 ?l19 ?c19 ?k19 ?a20 ?l20 ?c20 ?k20 ?a21 ?l21 ?c21 ?k21 ?a22 ?l22 ?c22 ?k22 ?a23 ?l23 ?c23 ?k23 ?a24 ?l24 ?c24 ?k24 ?a25 ?l25 ?c25 ?k25 ?a26 ?l26 ?c26 ?k26 ?a27 ?l27 ?c27 ?k27 ?a28 ?l28 ?c28 ?k28 ?a29 ?l29 ?c29 ?k29 ?a30 ?l30 ?c30 ?k30 ?a31 ?l31 ?c31 ?k31 ?a32 ?l32 ?c32 ?k32 ?a33 ?l33 ?c33 ?k33 ?a34 ?l34 ?c34 ?k34 ?a35 ?l35 ?c35 ?k35 ?a36 ?l36 ?c36 ?k36 ?a37 ?l37 ?c37 ?k37 ?a38 ?l38 ?c38 ?k38 ?z0 ?z1 ?z2 ?z3 ?z4 ?z5 ?z6 ?z7 ?z8 ?i0 ?i1 ?w0 ?x0 ?y0 ?v0 ?w1 ?x1 ?y1 ?v1
    (case a0 => k_is); (case l0 => k_is); (case c0 => k_is); (case k0 => k_is); (case a1 => k_is); (case l1 => k_is); (case c1 => k_is); (case k1 => k_is); (case a2 => k_is); (case l2 => k_is); (case c2 => k_is); (case k2 => k_is); (case a3 => k_is); (case l3 => k_is); (case c3 => k_is); (case k3 => k_is); (case a4 => k_is); (case l4 => k_is); (case c4 => k_is); (case k4 => k_is); (case a5 => k_is); (case l5 => k_is); (case c5 => k_is); (case k5 => k_is); (case a6 => k_is); (case l6 => k_is); (case c6 => k_is); (case k6 => k_is); (case a7 => k_is); (case l7 => k_is); (case c7 => k_is); (case k7 => k_is); (case a8 => k_is); (case l8 => k_is); (case c8 => k_is); (case k8 => k_is); (case a9 => k_is); (case l9 => k_is); (case c9 => k_is); (case k9 => k_is); (case a10 => k_is); (case l10 => k_is); (case c10 => k_is); (case k10 => k_is); (case a11 => k_is); (case l11 => k_is); (case c11 => k_is); (case k11 => k_is); (case a12 => k_is); (case l12 => k_is); (case c12 => k_is); (case k12 => k_is); (case a13 => k_is); (case l13 => k_is); (case c13 => k_is); (case k13 => k_is); (case a14 => k_is); (case l14 => k_is); (case c14 => k_is); (case k14 => k_is); (case a15 => k_is); (case l15 => k_is); (case c15 => k_is); (case k15 => k_is); (case a16 => k_is); (case l16 => k_is); (case c16 => k_is); (case k16 => k_is); (case a17 => k_is); (case l17 => k_is); (case c17 => k_is); (case k17 => k_is); (case a18 => k_is); (case l18 => k_is); (case c18 => k_is); (case k18 => k_is); (case a19 => k_is); (case l19 => k_is); (case c19 => k_is); (case k19 => k_is); (case a20 => k_is); (case l20 => k_is); (case c20 => k_is); (case k20 => k_is); (case a21 => k_is); (case l21 => k_is); (case c21 => k_is); (case k21 => k_is); (case a22 => k_is); (case l22 => k_is); (case c22 => k_is); (case k22 => k_is); (case a23 => k_is); (case l23 => k_is); (case c23 => k_is); (case k23 => k_is); (case a24 => k_is); (case l24 => k_is); (case c24 => k_is); (case k24 => k_is); (case a25 => k_is); (case l25 => k_is); (case c25 => k_is); (case k25 => k_is); (case a26 => k_is); (case l26 => k_is); (case c26 => k_is); (case k26 => k_is); (case a27 => k_is); (case l27 => k_is); (case c27 => k_is); (case k27 => k_is); (case a28 => k_is); (case l28 => k_is); (case c28 => k_is); (case k28 => k_is); (case a29 => k_is); (case l29 => k_is); (case c29 => k_is); (case k29 => k_is); (case a30 => k_is); (case l30 => k_is); (case c30 => k_is); (case k30 => k_is); (case a31 => k_is); (case l31 => k_is); (case c31 => k_is); (case k31 => k_is); (case a32 => k_is); (case l32 => k_is); (case c32 => k_is); (case k32 => k_is); (case a33 => k_is); (case l33 => k_is); (case c33 => k_is); (case k33 => k_is); (case a34 => k_is); (case l34 => k_is); (case c34 => k_is); (case k34 => k_is); (case a35 => k_is); (case l35 => k_is); (case c35 => k_is); (case k35 => k_is); (case a36 => k_is); (case l36 => k_is); (case c36 => k_is); (case k36 => k_is); (case a37 => k_is); (case l37 => k_is); (case c37 => k_is); (case k37 => k_is); (case a38 => k_is); (case l38 => k_is); (case c38 => k_is); (case k38 => k_is); (case z0 => k_is); (case z1 => k_is); (case z2 => k_is); (case z3 => k_is); (case z4 => k_is); (case z5 => k_is); (case z6 => k_is); (case z7 => k_is); (case z8 => k_is); (case i0 => k_is); (case i1 => k_is); (case w0 => k_is); (case x0 => k_is); (case y0 => exact (by decide)); (case v0 => (repeat (first | exact .nil | refine .cons ⟨_, rfl⟩ ?_))); (case w1 => k_is); (case x1 => k_is); (case y1 => exact (by decide)); (case v1 => (repeat (first | exact .nil | refine .cons ⟨_, rfl⟩ ?_)))
